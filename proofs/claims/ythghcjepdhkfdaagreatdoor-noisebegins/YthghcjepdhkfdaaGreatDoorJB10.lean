/-
  Own text. What step and Times of package curve give: the ladder's step, X25519 as a number.
-/
import Derived.Test.YthghcjepdhkfdaaGreatDoorJB9
import Derived.Test.YthghcjepdhkfdaaGreatDoorJB7
import Derived.Test.YthghcjepdhkfdaaGreatDoorJB2
import Derived.Test.YthghcjepdhkfdaaGreatDoorJB3
import Derived.Lib.SliceRun
set_option maxHeartbeats 16000000
set_option maxRecDepth 100000
open Array renaming ext_getElem?→AcK,getElem?_eq_none→Acv
open Int renaming add_mul_ediv_left→AcS,mul_assoc→Acn,mul_comm→Acy,pow_add→Ac2,pow_succ→Acr,tdiv_eq_ediv_of_nonneg→Ac8,tmod_eq_emod_of_nonneg→Acz,toNat_natCast→AcB
open List renaming map_cons→Acu,map_nil→Acq,map_toArray→Acs,range→Aco,setIfInBounds_toArray→Aci,set_cons_succ→Ach,set_cons_zero→Acj
open Nat renaming add_sub_cancel_left→Ac0,le_refl→Acg,le_trans→Acp,ne_of_lt→Ack,zero_add→Acl
namespace Go.Proofs.YthghcjepdhkfdaaGreatDoor.Fld
open Go.RowKit Go.Proofs
open Tryz
def RG(q:Qd pN)(V:Value):Prop:=∃x z v w,V=.agg (Q4 x z v w)∧N256 x∧N256 z∧N256 v∧N256 w∧QI x z v w=q
def RGo(q:Qd pN)(ob:Obj):Prop:=∃x z v w,ob=.cells (Q4 x z v w) 136 (0,0)∧N256 x∧N256 z∧N256 v∧N256 w∧QI x z v w=q
theorem AbC(x z v w:Int)(hx:N256 x)(hz:N256 z)(hv:N256 v)(hw:N256 w):RG (QI x z v w) (.agg (Q4 x z v w)):=⟨x,z,v,w,rfl,hx,hz,hv,hw,rfl⟩
theorem Zl(b:Bool)(x z v w:Int):QI (tb b x v) (tb b z w) (tb b v x) (tb b w z)=Qd.turn b (QI x z v w):=by cases b<;>rfl
theorem LL(b:Bool)(q:Qd pN)(V:Value)(hV:RG q V)(wd:World):Calls prog 134 #[V,.int .u8 (bI b)] wd fun e w'=>∃v,e=.returned v∧RG (Qd.turn b q) v∧Below wd.heap.size wd w':=by
 obtain⟨x,z,v,w,rfl,hx,hz,hv,hw,rfl⟩:=hV;refine(Pt b x z v w wd).mono ?_;rintro e w' ⟨rfl,hb⟩;exact⟨_,rfl,⟨_,_,_,_,rfl,El hx hv,El hz hw,El hv hx,El hw hz,Zl b x z v w⟩,hb⟩
theorem QG(u:Int)(q:Qd pN)(V:Value)(hV:RG q V)(wd:World)(hP:PrimeAt wd)(Nu:N256 u):Calls prog 135 #[V,.agg (BA u)] wd fun e w'=>∃v,e=.returned v∧RG (Qd.core kN (ofI u) q) v∧Below wd.heap.size wd w':=by
 obtain⟨x,z,v,w,rfl,hx,hz,hv,hw,rfl⟩:=hV;refine(Pp x z v w u wd hP hx hz hv hw Nu).mono ?_;rintro e w' ⟨⟨x',z',v',w2,rfl,h1,h2,h3,h4,h5⟩,hb⟩;exact⟨_,rfl,⟨_,_,_,_,rfl,h1,h2,h3,h4,h5⟩,hb⟩
theorem QH{f:FuncId}(hc:∀args w,(callFunc f args).run prog w=.ok (.enter f args) w){x y:Operand}{ts:Array TypeId}{o:Oper}{a:Act}{w:World}{K:Act→World→Prop}{Q:Exit→Act→World→Prop}{p:Value→Prop}(ho:o.op=.call { callee:=.value (.func f),args:=#[x,y],argTypes:=ts }){V V2:Value}(hx:a.eval x=V)(hy:a.eval y=V2)(hC:Calls prog f #[V,V2] w fun r w'=>∃v,r=.returned v∧p v∧Below w.heap.size w w')(h:∀v w',p v→Below w.heap.size w w'→K (a.put o.dst v) w'):o.wp prog a w K Q:=by
 refine Gr (Eu hc #[x,y] ts ho) ?_;simp only[Acs,Acu,Acq,hx,hy];exact hC.mono (fun e w' ⟨v,he,hp,hb⟩=>⟨v,he,h v w' hp hb⟩)
theorem Aa7{f:FuncId}(hc:∀args w,(callFunc f args).run prog w=.ok (.enter f args) w){x y z:Operand}{ts:Array TypeId}{o:Oper}{a:Act}{w:World}{K:Act→World→Prop}{Q:Exit→Act→World→Prop}{p:Value→Prop}(ho:o.op=.call { callee:=.value (.func f),args:=#[x,y,z],argTypes:=ts }){V V2 V3:Value}(hx:a.eval x=V)(hy:a.eval y=V2)(hz:a.eval z=V3)(hC:Calls prog f #[V,V2,V3] w fun r w'=>∃v,r=.returned v∧p v∧Below w.heap.size w w')(h:∀v w',p v→Below w.heap.size w w'→K (a.put o.dst v) w'):o.wp prog a w K Q:=by
 refine Gr (Eu hc #[x,y,z] ts ho) ?_;simp only[Acs,Acu,Acq,hx,hy,hz];exact hC.mono (fun e w' ⟨v,he,hp,hb⟩=>⟨v,he,h v w' hp hb⟩)
theorem IY(args:Array Value)(w:World):(callFunc 134 args).run prog w=.ok (.enter 134 args) w:=by kernel_rfl
theorem Oh(args:Array Value)(w:World):(callFunc 135 args).run prog w=.ok (.enter 135 args) w:=by kernel_rfl
theorem Ui(args:Array Value)(w:World):(callFunc 101 args).run prog w=.ok (.enter 101 args) w:=by kernel_rfl
theorem QJ(args:Array Value)(w:World):(callFunc 102 args).run prog w=.ok (.enter 102 args) w:=by kernel_rfl
theorem Xg{a:Act}{o:Oper}{wd:World}{K:Act→World→Prop}{Q:Exit→Act→World→Prop}{X Y:Operand}(ho:o.op=.store 136 X Y){g:Nat}(hx:a.eval X=.pointer (some ⟨g,0,none⟩)){q:Qd pN}(hy:RG q (a.eval Y)){x z v w:Int}(hg:wd.heap[g]?=some (.cells (Q4 x z v w) 136 (0,0)))(h:∀w2,ContOK (RGo q) w2 g→Only g wd w2→K (a.put o.dst undef) w2):o.wp prog a wd K Q:=by
 obtain⟨x',z',v',w',e,h1,h2,h3,h4,h5⟩:=hy;exact JH ho hx e hg (AP _ _ _ _) (fun w2 hg2 ho2=>h w2 ⟨_,hg2,x',z',v',w',rfl,h1,h2,h3,h4,h5⟩ ho2)
theorem Pu{a:Act}{o:Oper}{w:World}{x:Operand}(ho:o.op=.binOp .sub 3 (.const (.int .i64 254)) x 3){n:Nat}(hx:a.eval x=.int .i64 (n:Int))(hn:n≤255):(execOp a.eval o).run prog w=.ok (.value (.int .i64 (254-(n:Int)))) w:=by
 have h:IntKind.i64.wrap (254-(n:Int))=254-(n:Int):=by rw[IntKind.wrap_i64];omega
 unfold execOp;simp only[ho,hx];simp[Act.eval,go_sem,h]
theorem Zm(u:Int)(b:Bool)(q:Qd pN)(VV:Value)(hV:RG q VV)(wd:World)(hP:PrimeAt wd)(Nu:N256 u):Calls prog 101 #[VV,.int .u8 (bI b),.agg (BA u)] wd fun e w'=>∃v,e=.returned v∧RG (Qd.step kN (ofI u) b q) v∧Below wd.heap.size wd w':=by
 have hV0:=hV;obtain⟨x,z,v,w,rfl,-⟩:=hV0;have hz:=Cr hP;have hzero:=Gb;have HP:=Hid.mk hP;clear hP;go_enter func101,ntmps101;go_wp2_with fail;refine AJ (fun v0=>v0.heap[wd.heap.size]?=some (.cells (Q4 x z v w) 136 (0,0))∧v0.heap[wd.heap.size+1]?=some (.cells (BA u) 22 (0,0))∧v0.heap[wd.heap.size+1+1]?=some (.cells (Q4 0 0 0 0) 136 (0,0))∧Eh wd v0)
  ⟨A6 wd _ _ _,AB wd _ _ _,AK wd _ _ _,Dy hz ⟨Below.refl _ _,HP.out⟩ (by repeat first | exact Below.refl _ _ | refine Below.alloc ?_ (by simp<;>omega) _)⟩ ?_
 rintro v0 ⟨g3,g5,g6,hK⟩;clear hzero HP;refine Ai (Eh wd) v0.heap.size
  [(wd.heap.size,AQ (Q4 x z v w) 136),((wd.heap.size+1),AQ (BA u) 22),((wd.heap.size+1+1),⟨Eo (Q4 0 0 0 0) 136,[(7,RGo (Qd.step kN (ofI u) b q))]⟩)]
  [kv (.agg (Q4 x z v w)),kv (.int .u8 (bI b)),.val (RG (Qd.turn b q)),kv (.agg (BA u)),.val (RG (Qd.core kN (ofI u) (Qd.turn b q))),kv (.int .u8 (bI b)),.val (RG (Qd.step kN (ofI u) b q)),.val fun _=>True]
  [.none,.none,.none,.none,.none,.none,.none,.base 2 1]
  [some 7,some 8,some 9,some 10,some 11,some 12,some 13,none]
  [(1,.int .u8 (bI b)),(3,.pointer (some ⟨wd.heap.size,0,none⟩)),(5,.pointer (some ⟨(wd.heap.size+1),0,none⟩)),(6,.pointer (some ⟨(wd.heap.size+1+1),0,none⟩))]
  [[.base 0 0],[],[.slot 0,.slot 1],[.base 1 0],[.slot 2,.slot 3],[],[.slot 4,.slot 5],[.base 2 0,.slot 6]]
  [.base 2 1] [7,8,9,10,11,12,13]
  rfl (by kernel_rfl) ⟨rfl,rfl,rfl,rfl,trivial⟩ (Cn hK) (Acg _) ⟨⟨Aa g3,Al g3⟩,⟨Aa g5,Al g5⟩,⟨Aa g6,Al g6⟩,trivial⟩ ⟨⟨trivial,(show (wd.heap.size:Nat)≠(wd.heap.size+1+1) from by omega),trivial⟩,⟨(show ((wd.heap.size+1):Nat)≠(wd.heap.size+1+1) from by omega),trivial⟩,trivial,trivial⟩ (Em hz hK.1.size ⟨by omega,by omega,by omega,trivial⟩)
  ⟨
   sL fun f k=>sV (LH rfl f.2.1 (Ak k.1)),
   sL fun f _=>.inl ⟨trivial,fun K hK=>AX (Ab _ rfl) (hK _ _ ⟨Touch.refl _ _,f.1⟩)⟩,
   (fun _ _ ww _ _ _ _ kn=>.inl ⟨trivial,fun K hK=>QH IY rfl kn.1 kn.2.1 (LL b q _ hV ww) (fun v w' hp hb=>hK _ _ ⟨Ac hb,hp⟩)⟩),
   sL fun f k=>sV (BZ rfl f.2.2.1 (Ak k.1)),
   (fun _ _ ww _ hS _ _ kn=>.inl ⟨trivial,fun K hK=>QH Oh rfl rfl kn.2.1 (QG u _ _ kn.1 ww hS.2 Nu) (fun v w' hp hb=>hK _ _ ⟨Ac hb,hp⟩)⟩),
   sL fun f _=>.inl ⟨trivial,fun K hK=>AX (Ab _ rfl) (hK _ _ ⟨Touch.refl _ _,f.1⟩)⟩,
   (fun _ _ ww _ _ _ _ kn=>.inl ⟨trivial,fun K hK=>QH IY rfl rfl kn.2.1 (LL b _ _ kn.1 ww) (fun v w' hp hb=>hK _ _ ⟨Ac hb,hp⟩)⟩),
   sL fun f k=>.inl ⟨trivial,fun K hK=>Xg rfl f.2.2.2.1 k.2.1 (Ak k.1) (fun w2 hg ho=>hK _ _ ⟨⟨Ag ho,hg⟩,trivial⟩)⟩,
   trivial⟩ ?_
 intro vs own v1 hK1 hs1 kn inj;obtain⟨ob,g6,x',z',v',w',rfl,h1,h2,h3,h4,h5⟩:=kn.1;simp only[Am,Act.put,Aci,Acj,Ach];go_wp2;exact bodyPost_ret (v:=.agg (Q4 x' z' v' w')) (results_cell_row rfl _ _ _ _ _ _ _ rfl g6 underlying136 rfl (by rw[AP];exact EV)) rfl
  ⟨_,rfl,⟨_,_,_,_,rfl,h1,h2,h3,h4,h5⟩,hK1.1⟩
theorem of1:(1:Int)%P255=1:=by decide +kernel
theorem of0:(0:Int)%P255=0:=by decide +kernel
theorem Pv(k u:Int)(w:World)(hP:PrimeAt w)(hk:N256 k):Calls prog 57 #[.agg (BA k),.agg (BA u)] w fun e w'=>e=.returned (.agg (BA (tN k u)))∧Below w.heap.size w w':=by
 have hz:=Cr hP;have HP:=Hid.mk hP;have HK:=Hid.mk hk;have HL:=Hid.mk (Wy u);have hx0:N256 (u%W255):=by unfold N256 Bm W255;omega
 have HX0:=Hid.mk hx0;have hb31:=Bq u 31;unfold BR at hb31;obtain⟨hb310,hb311⟩:=hb31;have e127:=Na (byt u 31) hb310 hb311;clear hk hx0 hP;go_enter func57,ntmps57
 go_wp2_with (refine A7 rfl _ rfl _ _ rfl (A6 w _ _ _) (Ah _) ?_)
 refine(Ug k _ HK.out).mono ?_;rintro e v1 ⟨rfl,hb1⟩;have gk:=Aj hb1 (A6 w _ _ _) (by simp<;>omega);have gu:=Aj hb1 (AB w _ _ _) (by simp<;>omega);have gz:=Aj hb1 (AK w _ _ _) (by simp<;>omega)
 have hB:Below w.heap.size w v1:=by
  refine Below.trans ?_ (hb1.mono (by simp<;>omega))
  repeat first | exact Below.refl _ _ | refine Below.alloc ?_ (by simp<;>omega) _
 clear hb1
 go_wp2_with (refine AZ (by rfl) (by rfl) gk (Ah _) ?_;intro v2 gk2 o2;refine Hid.out ?_)
 replace gu:=(o2.block _ (by omega)).trans gu;replace gz:=(o2.block _ (by omega)).trans gz;replace hB:=Below.trans hB (Only.below (b:=w.heap.size) (B:=w.heap.size) o2 (Acg _));clear gk o2;refine Hid.mk ?_;have cu:=(cell_of_row v2 (w.heap.size+1) 31 _ _ _ gu).trans (BH u 31 (by omega));have fu:=frozen_of_row v2 (w.heap.size+1) 31 _ _ gu;generalize byt u 31=x31 at *
 go_wp2_with (refine A7 rfl _ rfl (w.heap.size+1) _ rfl (heap_setCell_same _ _ _ _ _ _ gu) (by simp[Ah]) ?_;rw[HL.out])
 refine(TB (u%W255) _ HX0.out.1 HX0.out.2).mono ?_;rintro e v3 ⟨rfl,hb3⟩;have gk3:=Aj hb3 ((heap_setCell_other _ _ _ _ (by simp)).trans gk2) (by have:=Aa gk2;simp;omega);have gz3:=Aj hb3 ((heap_setCell_other _ _ _ _ (by simp)).trans gz) (by have:=Aa gz;simp;omega);have hB3:Below w.heap.size w v3:=Below.trans (Below.setCell hB (by simp) _) (hb3.mono (by have:=hB.size;simp;omega));clear hb3 gk2 gz hB gu cu fu e127;have NX:=N256.mod (u%W255);obtain⟨x,hxe⟩:∃x,u%W255%P255=x:=⟨_,rfl⟩;rw[hxe] at NX ⊢;have HXE:=Hid.mk hxe;clear hxe
 go_wp2_with (refine AZ (by rfl) (by rfl) (heap_alloc_new v3 _) (by rfl) ?_;intro v4 gx o4;refine Hid.out ?_)
 have hs3:=Aa gz3;replace gk3:=(o4.block _ (Ack (Aa gk3))).trans ((Below.heap_alloc v3 _ _ (Aa gk3)).trans gk3);replace gz3:=(o4.block _ (Ack (Aa gz3))).trans ((Below.heap_alloc v3 _ _ (Aa gz3)).trans gz3);replace hB3:=Below.trans (hB3.alloc hB3.size _) (Only.below (b:=v3.heap.size) (B:=w.heap.size) o4 hB3.size);clear o4;generalize v3.heap.size=bx at *;have hK:Eh w v4:=Dy hz ⟨Below.refl _ _,HP.out⟩ hB3;clear hB3;refine Hid.mk ?_;have NN:=LC k;obtain⟨N,hN⟩:∃N,Cx k=N:=⟨_,rfl⟩;have HN:=Hid.mk hN;rw[hN] at gk3 NN;clear hN;have gk:=gk3;have gz:=gz3;clear gk3 gz3;go_wp2_with fail;refine Ai (Eh w) v4.heap.size
  [(bx,AQ (BA x) 22),(w.heap.size,AQ (BA N) 22),((w.heap.size+1+1),AQ (BA 0) 22)]
  [kv (.agg (BA 1)),kv (.agg (BA 0)),kv (.agg (BA x)),kv (.agg (BA 1)),kv (.agg (Q4 1 0 x 1)),kp (Q4 0 0 0 0) 136 6 (Q4 1 0 x 1),.val fun _=>True]
  [.none,.none,.none,.none,.none,.none,.own 5 1]
  [some 16,some 17,some 18,some 19,some 20,some 6,none]
  [(5,.pointer (some ⟨bx,0,none⟩))]
  [[],[],[.base 0 0],[],[.slot 0,.slot 1,.slot 2,.slot 3],[],[.slot 5,.cont 5 0,.slot 4]]
  [.slot 5,.cont 5 1,.base 0 0,.base 1 0,.base 2 0] [16,17,18,19,20,6]
  rfl (by kernel_rfl) ⟨rfl,trivial⟩ (Cn hK) (Acg _) ⟨⟨Aa gx,Al gx⟩,⟨Aa gk,Al gk⟩,⟨Aa gz,Al gz⟩,trivial⟩ ⟨⟨trivial,trivial,trivial⟩,⟨trivial,trivial⟩,trivial,trivial⟩ (Em hz hK.1.size ⟨by omega,by omega,by omega,trivial⟩)
  ⟨
   (fun _ _ ww _ hS _ _ _=>.inl ⟨trivial,fun K hK=>C8 IX rfl rfl (JA 1 ww hS.2 (by omega) (by omega)) (fun w' hb=>hK _ _ ⟨Ac hb,(congrArg (fun n=>Value.agg (BA n)) of1)⟩)⟩),
   (fun _ _ ww _ hS _ _ _=>.inl ⟨trivial,fun K hK=>C8 IX rfl rfl (JA 0 ww hS.2 (by omega) (by omega)) (fun w' hb=>hK _ _ ⟨Ac hb,(congrArg (fun n=>Value.agg (BA n)) of0)⟩)⟩),
   sL fun f k=>sV (BZ rfl f.1 (Ak k.1)),
   (fun _ _ ww _ hS _ _ _=>.inl ⟨trivial,fun K hK=>C8 IX rfl rfl (JA 1 ww hS.2 (by omega) (by omega)) (fun w' hb=>hK _ _ ⟨Ac hb,(congrArg (fun n=>Value.agg (BA n)) of1)⟩)⟩),
   sL fun _ k=>sV (LI rfl k.1 k.2.1 k.2.2.1 k.2.2.2.1),
   sL fun _ _=>.inl ⟨trivial,fun K hK=>Bi Gb rfl (fun w' hb hg=>hK _ _ ⟨Ac hb,_,Acg _,rfl,Al hg⟩)⟩,
   sL fun _ k=>.inl ⟨trivial,fun K hK=>JH rfl k.1.1 k.2.2.1 (Ak k.2.1) (AP _ _ _ _) (fun w2 hg ho=>hK _ _ ⟨Ag ho,Al hg,trivial⟩)⟩,
   trivial⟩ ?_
 intro vs own v5 hK5 hs5 kn inj;have e6:vs 6=.pointer (some ⟨own 5,0,none⟩):=kn.1.1;have l6:v4.heap.size≤own 5:=kn.1.2.1;have gp:=Ak kn.2.1;have gx5:=Ak kn.2.2.1;have gk5:=Ak kn.2.2.2.1;have gz5:=Ak kn.2.2.2.2.1;have hl4:=Aa gz;have hlx:=Aa gx;clear kn inj gx gk gz;generalize own 5=bp at *;simp only[Am,Act.put,Aci,Acj,Ach,e6];have hbp:w.heap.size+3≤bp:=by omega
 have hbxp:bx<bp:=by omega
 clear e6 l6 hl4 hlx hK own hs5;go_wp2
 go_loopg [21] 255 (fun m i v=>∃(j:Nat) (X Z V W:Int),Hid (m+j=255)∧i=.int .i64 (j:Int)∧N256 X∧N256 Z∧N256 V∧N256 W∧Hid (QI X Z V W=Qd.run kN (ofI x) (Fg N.toNat j) (Qd.start (ofI x))) ∧
  v.heap[w.heap.size]?=some (.cells (BA N) 22 (0,0))∧v.heap[w.heap.size+1+1]?=some (.cells (BA 0) 22 (0,0))∧v.heap[bx]?=some (.cells (BA x) 22 (0,0))∧v.heap[bp]?=some (.cells (Q4 X Z V W) 136 (0,0))∧Eh w v)
 case atStart=>exact⟨0,1,0,x,1,Hid.mk rfl,rfl,K4,K5,NX,K4,Hid.mk (LF x),gk5,gz5,gx5,gp,hK5⟩
 case round =>
  clear gk5 gz5 gx5 gp hK5;obtain⟨j,X,Z,V,W,HJ,rfl,nX,nZ,nV,nW,HQ,gk,gz,gx,gp,hK⟩:=hrel;have hj255:j≤255:=by have:=HJ.out;omega
  by_cases hj:j<255
  ·go_wp2_with fail
   refine Ai (Eh w) wr.heap.size
    [(bp,⟨Eo (Q4 X Z V W) 136,[(7,RGo (Qd.step kN (ofI x) (N.toNat.testBit (254-j)) (QI X Z V W)))]⟩),(w.heap.size,AQ (BA N) 22),(bx,AQ (BA x) 22),((w.heap.size+1+1),AQ (BA 0) 22)]
    [kv (.agg (Q4 X Z V W)),kv (.agg (BA N)),kv (.int .i64 (j:Int)),kv (.int .i64 (254-(j:Int))),kv (.int .u8 (bI (N.toNat.testBit (254-j)))),kv (.agg (BA x)),.val (RG (Qd.step kN (ofI x) (N.toNat.testBit (254-j)) (QI X Z V W))),.val fun _=>True]
    [.none,.none,.none,.none,.none,.none,.none,.base 0 1]
    [some 24,some 25,some 26,some 27,some 28,some 29,some 30,none]
    [(2,.pointer (some ⟨w.heap.size,0,none⟩)),(5,.pointer (some ⟨bx,0,none⟩)),(6,.pointer (some ⟨bp,0,none⟩)),(7,.int .i64 (j:Int))]
    [[.base 0 0],[.base 1 0],[],[.slot 2],[.slot 1,.slot 3],[.base 2 0],[.slot 0,.slot 4,.slot 5],[.base 0 0,.slot 6]]
    [.base 0 1,.base 1 0,.base 2 0,.base 3 0] [24,25,26,27,28,29,30]
    rfl (by kernel_rfl) ⟨rfl,rfl,rfl,rfl,trivial⟩ (Cn hK) (Acg _) ⟨⟨Aa gp,Al gp⟩,⟨Aa gk,Al gk⟩,⟨Aa gx,Al gx⟩,⟨Aa gz,Al gz⟩,trivial⟩ ⟨⟨(show (bp:Nat)≠w.heap.size from by omega),(show (bp:Nat)≠bx from by omega),(show (bp:Nat)≠(w.heap.size+1+1) from by omega),trivial⟩,⟨trivial,trivial,trivial⟩,⟨trivial,trivial⟩,trivial,trivial⟩ (Em hz hK.1.size ⟨by omega,by omega,by omega,by omega,trivial⟩)
    ⟨
     sL fun f k=>sV (LH rfl f.2.2.1 (Ak k.1)),
     sL fun f k=>sV (BZ rfl f.1 (Ak k.1)),
     sL fun f _=>.inl ⟨trivial,fun K hK=>AX (Ab _ rfl) (hK _ _ ⟨Touch.refl _ _,f.2.2.2.1⟩)⟩,
     sL fun _ k=>sV (Pu rfl k.1 hj255),
     (fun _ _ ww _ _ _ _ kn=>.inl ⟨trivial,fun K hK=>LG QJ rfl kn.1 kn.2.1 (Uh N j ww NN.1 hj) (fun w' hb=>hK _ _ ⟨Ac hb,rfl⟩)⟩),
     sL fun f k=>sV (BZ rfl f.2.1 (Ak k.1)),
     (fun _ _ ww _ hS _ _ kn=>.inl ⟨trivial,fun K hK=>Aa7 Ui rfl kn.1 kn.2.1 kn.2.2.1 (Zm x _ _ _ (AbC X Z V W nX nZ nV nW) ww hS.2 NX) (fun v w' hp hb=>hK _ _ ⟨Ac hb,hp⟩)⟩),
     sL fun f k=>.inl ⟨trivial,fun K hK=>Xg rfl f.2.2.1 k.2.1 (Ak k.1) (fun w2 hg ho=>hK _ _ ⟨⟨Ag ho,hg⟩,trivial⟩)⟩,
     trivial⟩ ?_
   intro vs8 own8 v6 hK6 hs6 kn inj;obtain⟨ob,gp6,X',Z',V',W',rfl,nX',nZ',nV',nW',hQ'⟩:=kn.1;have gk6:=Ak kn.2.1;have gx6:=Ak kn.2.2.1;have gz6:=Ak kn.2.2.2.1;have HQ2:Hid (QI X' Z' V' W'=Qd.run kN (ofI x) (Fg N.toNat (j+1)) (Qd.start (ofI x))):=Hid.mk (by rw[IV,Po,←HQ.out];exact hQ');clear hQ' HQ kn inj gk gz gx gp hK;simp only[Am,Act.put,Aci,Acj,Ach];go_wp2
   go_roundg (255-(j+1))
   case rel=>exact⟨j+1,X',Z',V',W',Hid.mk (by omega),by go_num,nX',nZ',nV',nW',HQ2,gk6,gz6,gx6,gp6,hK6⟩
   case measure=>have:=HJ.out;omega
  ·have hj2:j=255:=by omega
   subst hj2
   have HE:Hid ((X*EU Z)%P255=tN k u):=Hid.mk (RW k u X Z V W (by
    have e:ofI (u%W255)=ofI x:=ofI_eq.2 (by have:=HXE.out;have h2:=Int.emod_emod (u%W255) P255;rw[this] at h2;rw[this,h2]);unfold IW;rw[e,HN.out];exact HQ.out.symm))
   go_wp2_with fail;refine Ai (Eh w) wr.heap.size
    [(bp,AQ (Q4 X Z V W) 136),((w.heap.size+1+1),once (BA 0) 22 7 (BA (tN k u)))]
    [kv (.pointer (some ⟨bp,0*32,none⟩)),kv (.agg (BA X)),kv (.pointer (some ⟨bp,1*32,none⟩)),kv (.agg (BA Z)),kv (.agg (BA (EU Z))),ks 2 (BA X++BA (EU Z)) 22,kv (.agg (BA (tN k u))),.val fun _=>True]
    [.none,.none,.none,.none,.none,.none,.none,.base 1 1]
    [some 32,some 33,some 34,some 35,some 36,some 37,some 38,none]
    [(4,.pointer (some ⟨(w.heap.size+1+1),0,none⟩)),(6,.pointer (some ⟨bp,0,none⟩))]
    [[],[.slot 0,.base 0 0],[],[.slot 2,.base 0 0],[.slot 3],[.slot 1,.slot 4],[.slot 5,.cont 5 0],[.base 1 0,.slot 6]]
    [.base 1 1] [32,33,34,35,36,37,38]
    rfl (by kernel_rfl) ⟨rfl,rfl,trivial⟩ (Cn hK) (Acg _) ⟨⟨Aa gp,Al gp⟩,⟨Aa gz,Al gz⟩,trivial⟩ ⟨⟨(show (bp:Nat)≠(w.heap.size+1+1) from by omega),trivial⟩,trivial,trivial⟩ (Em hz hK.1.size ⟨by omega,by omega,trivial⟩)
    ⟨
     sL fun f _=>sV (DX rfl f.2.1 (by decide)),
     sL fun _ k=>sV (H5 rfl k.1 (Cu (Ak k.2.1) (Xb X Z V W))),
     sL fun f _=>sV (DX rfl f.2.1 (by decide)),
     sL fun _ k=>sV (H5 rfl k.1 (Cu (Ak k.2.1) (Ks X Z V W))),
     (fun _ _ ww _ hS _ _ kn=>.inl ⟨trivial,fun K hK=>C8 Xc rfl kn.1 (Ze Z ww hS.2 nZ) (fun w' hb=>hK _ _ ⟨Ac hb,rfl⟩)⟩),
     sL fun _ k=>.inl ⟨trivial,fun K hK=>F5 rfl k.1 k.2.1 (fun v hg hb=>hK _ _ ⟨Ac hb,_,Acg _,rfl,Al hg⟩)⟩,
     (fun _ _ ww _ _ _ _ kn=>.inl ⟨trivial,fun K hK=>C8 Ds rfl kn.1.1 (NT X (EU Z) _ ww nX (Ph Z) (F2 (Ak kn.2.1)) kn.1.2.2) (fun w' hb=>hK _ _ ⟨Ac hb,(congrArg (fun n=>Value.agg (BA n)) HE.out)⟩)⟩),
     sL fun f k=>.inl ⟨trivial,fun K hK=>Ca rfl f.1 k.2.1 (Ak k.1) (fun w2 hg ho=>hK _ _ ⟨⟨Ag ho,Al hg⟩,trivial⟩)⟩,
     trivial⟩ ?_
   intro vs8 own8 v6 hK6 hs6 kn inj;have gz6:=Ak kn.1;simp only[Am,Act.put,Aci,Acj,Ach];go_wp2;exact bodyPost_ret (v:=.agg (BA (tN k u))) (results_cell_row rfl _ _ _ _ _ _ _ rfl gz6 underlying22 rfl (by rw[Ah];exact Bo)) rfl ⟨rfl,hK6.1⟩
theorem DU {P:Program} {fn:Func} {p u:Tmp} {ty:TypeId} (h:fn.results=#[.cell p ty,.tmp u]) (tmps:Array Value) (w:World) (g:Nat) {v:Value}
  (hp:tmps.getD p undef=.pointer (some ⟨g,0,none⟩)) (hq:tmps.getD u undef=v) {t:TypeId} {fr:Nat×Nat} {d:TypeDesc} (cs:Array Value) (hg:w.heap[g]?=some (.cells cs t fr))
  (hi:(P.info? ty).map (·.size)=some cs.size) (hu:P.underlying ty=some d) (hd:(match d with | .struct _ | .array _ _=>true | _=>false)=true) :
  (results fn tmps).run P w=.ok (.tuple #[.agg cs,v]) w:=by
 have hp':tmps[p]?.getD undef=.pointer (some ⟨g,0,none⟩):=by simpa using hp
 have hq':tmps[u]?.getD undef=v:=by simpa using hq
 simp[results,h,hp',hq',asAddr,run_loadVar_row w g t ty cs fr d hg hu hd hi]
theorem Uj(args:Array Value)(w:World):(callFunc 57 args).run prog w=.ok (.enter 57 args) w:=by kernel_rfl
theorem of9:(9:Int)%P255=9:=by decide +kernel
theorem public_any(k:Int)(w:World)(hP:PrimeAt w)(Nk:N256 k):Calls prog 18 #[.agg (BA k)] w fun e w'=>e=.returned (.agg (BA (tN k 9)))∧Below w.heap.size w w':=by
 have hz:=Cr hP;have HP:=Hid.mk hP;clear hP;go_enter func18,ntmps18;go_wp2_with fail;refine AJ (fun v0=>v0.heap[w.heap.size]?=some (.cells (BA k) 22 (0,0))∧v0.heap[w.heap.size+1]?=some (.cells (BA 0) 22 (0,0))∧Eh w v0)
  ⟨heap_alloc2_old w _ _,heap_alloc2_new w _ _,Dy hz ⟨Below.refl _ _,HP.out⟩ (by repeat first | exact Below.refl _ _ | refine Below.alloc ?_ (by simp<;>omega) _)⟩ ?_
 rintro v0 ⟨g1,g2,hK⟩;clear HP;refine Ai (Eh w) v0.heap.size
  [(w.heap.size,AQ (BA k) 22),((w.heap.size+1),once (BA 0) 22 3 (BA (tN k 9)))]
  [kv (.agg (BA k)),kv (.agg (BA 9)),kv (.agg (BA (tN k 9))),.val fun _=>True]
  [.none,.none,.none,.base 1 1]
  [some 3,some 4,some 5,none]
  [(1,.pointer (some ⟨w.heap.size,0,none⟩)),(2,.pointer (some ⟨(w.heap.size+1),0,none⟩))]
  [[.base 0 0],[],[.slot 0,.slot 1],[.base 1 0,.slot 2]]
  [.base 1 1] [3,4,5]
  rfl (by kernel_rfl) ⟨rfl,rfl,trivial⟩ (Cn hK) (Acg _) ⟨⟨Aa g1,Al g1⟩,⟨Aa g2,Al g2⟩,trivial⟩ ⟨⟨(show (w.heap.size:Nat)≠(w.heap.size+1) from by omega),trivial⟩,trivial,trivial⟩ (Em hz hK.1.size ⟨by omega,by omega,trivial⟩)
  ⟨
   sL fun f k=>sV (BZ rfl f.1 (Ak k.1)),
   (fun _ _ ww _ hS _ _ _=>.inl ⟨trivial,fun K hK=>C8 IX rfl rfl (JA 9 ww hS.2 (by omega) (by omega)) (fun w' hb=>hK _ _ ⟨Ac hb,(congrArg (fun n=>Value.agg (BA n)) of9)⟩)⟩),
   (fun _ _ ww _ hS _ _ kn=>.inl ⟨trivial,fun K hK=>LG Uj rfl kn.1 kn.2.1 (Pv k 9 ww hS.2 Nk) (fun w' hb=>hK _ _ ⟨Ac hb,rfl⟩)⟩),
   sL fun f k=>.inl ⟨trivial,fun K hK=>Ca rfl f.2.1 k.2.1 (Ak k.1) (fun w2 hg ho=>hK _ _ ⟨⟨Ag ho,Al hg⟩,trivial⟩)⟩,
   trivial⟩ ?_
 intro vs own v1 hK1 hs1 kn inj;have g3:=Ak kn.1;simp only[Am,Act.put,Aci,Acj,Ach];go_wp2;exact bodyPost_ret (v:=.agg (BA (tN k 9))) (results_cell_row rfl _ _ _ _ _ _ _ rfl g3 underlying22 rfl (by rw[Ah];exact Bo)) rfl ⟨rfl,hK1.1⟩
theorem shared_any(k u:Int)(w:World)(hP:PrimeAt w)(hk:N256 k):Calls prog 118 #[.agg (BA k),.agg (BA u)] w fun e w'=>e=.returned (.tuple #[.agg (BA (tN k u)),.bool (!(tN k u==0))])∧Below w.heap.size w w':=by
 have hz:=Cr hP;have HP:=Hid.mk hP;clear hP;have HK:=Hid.mk hk;clear hk;go_enter func118,ntmps118
 go_wp2_with (first|(refine A7 rfl _ rfl w.heap.size (BA k) rfl (A6 w _ _ _) (Ah _) ?_)|(refine A7 rfl _ rfl (w.heap.size+1) (BA u) rfl (AB w _ _ _) (Ah _) ?_))
 refine(Pv k u _ (CN HP.out (B:=w.heap.size) (by repeat first | exact Below.refl _ _ | refine Below.alloc ?_ (by simp<;>omega) _) hz) HK.out).mono ?_;rintro e v1 ⟨rfl,hb1⟩;have gz:=Aj hb1 (AK w _ _ _) (by simp<;>omega)
 have hB:Below w.heap.size w v1:=by
  refine Below.trans ?_ (hb1.mono (by simp<;>omega))
  repeat first | exact Below.refl _ _ | refine Below.alloc ?_ (by simp<;>omega) _
 clear hb1;have Ns:=WV k u;obtain⟨s,hs⟩:∃s,tN k u=s:=⟨_,rfl⟩;rw[hs] at Ns ⊢;have HS:=Hid.mk hs;clear hs
 go_wp2_with (refine AZ (by rfl) (by rfl) (heap_alloc_new v1 _) (by rfl) ?_;intro v2 g6 o2;refine Hid.out ?_)
 have hl:=Aa gz;replace gz:=(o2.block _ (Ack (Aa gz))).trans ((Below.heap_alloc v1 _ _ (Aa gz)).trans gz);replace hB:=Below.trans (hB.alloc hB.size _) (Only.below (b:=v1.heap.size) (B:=w.heap.size) o2 hB.size);clear o2;generalize v1.heap.size=b6 at *;have hK:Eh w v2:=Dy hz ⟨Below.refl _ _,HP.out⟩ hB;clear hB;refine Hid.mk ?_;go_wp2_with fail;refine Ai (Eh w) v2.heap.size
  [(b6,AQ (BA s) 22),((w.heap.size+1+1),once (BA 0) 22 4 (BA s))]
  [kv (.agg (BA s)),kv (.agg (BA s)),kv (.agg (BA 0)),kv (.bool (!(s==0))),.val fun _=>True,kv (.bool (!(s==0)))]
  [.none,.none,.none,.none,.base 1 1]
  [some 10,some 11,some 12,some 13,none,some 5]
  [(4,.pointer (some ⟨(w.heap.size+1+1),0,none⟩)),(6,.pointer (some ⟨b6,0,none⟩))]
  [[.base 0 0],[.base 0 0],[],[.slot 1,.slot 2],[.base 1 0,.slot 0],[.slot 3]]
  [.slot 5,.base 1 1] [10,11,12,13,5]
  rfl (by kernel_rfl) ⟨rfl,rfl,trivial⟩ (Cn hK) (Acg _) ⟨⟨Aa g6,Al g6⟩,⟨Aa gz,Al gz⟩,trivial⟩ ⟨⟨(show (b6:Nat)≠(w.heap.size+1+1) from by omega),trivial⟩,trivial,trivial⟩ (Em hz hK.1.size ⟨by omega,by omega,trivial⟩)
  ⟨
   sL fun f k=>sV (BZ rfl f.2.1 (Ak k.1)),
   sL fun f k=>sV (BZ rfl f.2.1 (Ak k.1)),
   sL fun _ _=>sV (Ka rfl),
   sL fun _ k=>sV (MZ _ _ _ rfl s 0 k.1 k.2.1 Ns K5),
   sL fun f k=>.inl ⟨trivial,fun K hK=>Ca rfl f.1 k.2.1 (Ak k.1) (fun w2 hg ho=>hK _ _ ⟨⟨Ag ho,Al hg⟩,trivial⟩)⟩,
   sL fun _ k=>.inl ⟨trivial,fun K hK=>AX (Av _ rfl) (hK _ _ ⟨Touch.refl _ _,k.1⟩)⟩,
   trivial⟩ ?_
 intro vs own v3 hK3 hs3 kn inj;have e5:vs 5=.bool (!(s==0)):=kn.1;have gz3:=Ak kn.2.1;clear kn inj;simp only[Am,Act.put,Aci,Acj,Ach,e5];go_wp2;exact bodyPost_ret (v:=.tuple #[.agg (BA s),.bool (!(s==0))]) (DU (v:=.bool (!(s==0))) (p:=4) (u:=5) rfl _ _ _ (by rfl) (by rfl) _ gz3 (by rw[Ah];exact Bo) underlying22 rfl) rfl ⟨by rw[HS.out],hK3.1⟩
theorem rshared_any(k u:Int)(w:World)(hk:N256 k):Calls prog 42 #[.agg (BA k),.agg (BA u)] w fun e w'=>e=.returned (.tuple #[.agg (BA (tN k u)),.bool (!(tN k u==0))])∧Below w.heap.size w w':=by
 have HK:=Hid.mk hk;clear hk;go_enter func42,ntmps42
 go_wp2_with (first|(refine A7 rfl _ rfl w.heap.size (BA k) rfl (A6 w _ _ _) (Ah _) ?_)|(refine A7 rfl _ rfl (w.heap.size+1) (BA u) rfl (AB w _ _ _) (Ah _) ?_))
 refine(MY k u _ HK.out).mono ?_;rintro e v1 ⟨rfl,hb1⟩;have gz:=Aj hb1 (AK w _ _ _) (by simp<;>omega)
 have hB:Below w.heap.size w v1:=by
  refine Below.trans ?_ (hb1.mono (by simp<;>omega))
  repeat first | exact Below.refl _ _ | refine Below.alloc ?_ (by simp<;>omega) _
 clear hb1;have Ns:=WV k u;obtain⟨s,hs⟩:∃s,tN k u=s:=⟨_,rfl⟩;rw[hs] at Ns ⊢;have HS:=Hid.mk hs;clear hs
 go_wp2_with (refine AZ (by rfl) (by rfl) (heap_alloc_new v1 _) (by rfl) ?_;intro v2 g6 o2;refine Hid.out ?_)
 have hl:=Aa gz;replace gz:=(o2.block _ (Ack (Aa gz))).trans ((Below.heap_alloc v1 _ _ (Aa gz)).trans gz);replace hB:=Below.trans (hB.alloc hB.size _) (Only.below (b:=v1.heap.size) (B:=w.heap.size) o2 hB.size);clear o2;generalize v1.heap.size=b6 at *;have hK:=hB;clear hB;refine Hid.mk ?_;go_wp2_with fail;refine Ai (Below w.heap.size w) v2.heap.size
  [(b6,AQ (BA s) 22),((w.heap.size+1+1),once (BA 0) 22 4 (BA s))]
  [kv (.agg (BA s)),kv (.agg (BA s)),kv (.agg (BA 0)),kv (.bool (!(s==0))),.val fun _=>True,kv (.bool (!(s==0)))]
  [.none,.none,.none,.none,.base 1 1]
  [some 10,some 11,some 12,some 13,none,some 5]
  [(4,.pointer (some ⟨(w.heap.size+1+1),0,none⟩)),(6,.pointer (some ⟨b6,0,none⟩))]
  [[.base 0 0],[.base 0 0],[],[.slot 1,.slot 2],[.base 1 0,.slot 0],[.slot 3]]
  [.slot 5,.base 1 1] [10,11,12,13,5]
  rfl (by kernel_rfl) ⟨rfl,rfl,trivial⟩ (Below.drew hK) (Acg _) ⟨⟨Aa g6,Al g6⟩,⟨Aa gz,Al gz⟩,trivial⟩ ⟨⟨(show (b6:Nat)≠(w.heap.size+1+1) from by omega),trivial⟩,trivial,trivial⟩ (A8 hK.size ⟨by omega,by omega,trivial⟩)
  ⟨
   sL fun f k=>sV (BZ rfl f.2.1 (Ak k.1)),
   sL fun f k=>sV (BZ rfl f.2.1 (Ak k.1)),
   sL fun _ _=>sV (Ka rfl),
   sL fun _ k=>sV (MZ _ _ _ rfl s 0 k.1 k.2.1 Ns K5),
   sL fun f k=>.inl ⟨trivial,fun K hK=>Ca rfl f.1 k.2.1 (Ak k.1) (fun w2 hg ho=>hK _ _ ⟨⟨Ag ho,Al hg⟩,trivial⟩)⟩,
   sL fun _ k=>.inl ⟨trivial,fun K hK=>AX (Av _ rfl) (hK _ _ ⟨Touch.refl _ _,k.1⟩)⟩,
   trivial⟩ ?_
 intro vs own v3 hK3 hs3 kn inj;have e5:vs 5=.bool (!(s==0)):=kn.1;have gz3:=Ak kn.2.1;clear kn inj;simp only[Am,Act.put,Aci,Acj,Ach,e5];go_wp2;exact bodyPost_ret (v:=.tuple #[.agg (BA s),.bool (!(s==0))]) (DU (v:=.bool (!(s==0))) (p:=4) (u:=5) rfl _ _ _ (by rfl) (by rfl) _ gz3 (by rw[Ah];exact Bo) underlying22 rfl) rfl ⟨by rw[HS.out],hK3⟩
end Go.Proofs.YthghcjepdhkfdaaGreatDoor.Fld
namespace Go.Proofs.YthghcjepdhkfdaaGreatDoor
open Go.RowKit Go.Proofs
open Tryz
theorem Pw{s:Nat→Int}:∀{n:Nat},Byts n s→∀j,j<n→AM (dval s n) j=s j
 | 0,_,j,hj=>by omega
 | n+1,h,j,hj=>by
  have hb:Byts n s:=fun i hi=>h i (by omega)
  have hn:=h n (by omega);unfold dval AM
  by_cases e:j=n
  ·subst e
   have h0:=Bw (s:=s) (n:=j) (fun i hi=>(hb i hi).1);have h1:=Hf (s:=s) (n:=j) hb;rw[AcS _ _ (by have:(0:Int)<256 ^ j:=Int.pow_pos (by omega);omega),Int.ediv_eq_zero_of_lt h0 h1];omega
  ·obtain⟨d,hd⟩:∃d,n=j+1+d:=⟨n-(j+1),by omega⟩
   have ih:=Pw hb j (by omega);unfold AM at ih;have hp:(0:Int)<256 ^ j:=Int.pow_pos (by omega)
   have e2:dval s n+256 ^ n*s n=dval s n+256 ^ j*(256*(256 ^ d*s n)):=by
    rw[hd,Ac2,Acr];simp only[Acn]
   rw[e2,AcS _ _ (by omega),←ih];omega
def nm(s:Nat→Int):Int:=dval s 32
theorem Zn{s:Nat→Int}(h:Byts 32 s):Fld.N256 (nm s):=
 ⟨Bw (fun i hi=>(h i hi).1),Hf h⟩
theorem LM(m:Int):Fld.BA m=WA .u8 32 (AM m):=rfl
theorem Nb{s:Nat→Int}(h:Byts 32 s):Fld.BA (nm s)=WA .u8 32 s:=by
 rw[LM];exact KE (Pw h)
def BT(k:Nat→Int):Nat→Int:=AM (Fld.tN (nm k) 9)
def shF(k u:Nat→Int):Nat→Int:=AM (Fld.tN (nm k) (nm u))
def shZ(k u:Nat→Int):Bool:=!(Fld.tN (nm k) (nm u)==0)
theorem GK(k:Nat→Int)(n:Nat):Byts n (BT k):=fun i _=>Ej _ i
theorem Px(k u:Nat→Int)(n:Nat):Byts n (shF k u):=fun i _=>Ej _ i
theorem GL(k:Nat→Int)(w:World)(hk:Byts 32 k):Calls prog 39 #[.agg (WA .u8 32 k)] w fun e w'=>e=.returned (.agg (WA .u8 32 (BT k)))∧Below w.heap.size w w':=by
 have h:=Fld.rpublic_any (nm k) w (Zn hk);rw[Nb hk,LM] at h;exact h
theorem Fi(k u:Nat→Int)(w:World)(hk:Byts 32 k)(hu:Byts 32 u):Calls prog 42 #[.agg (WA .u8 32 k),.agg (WA .u8 32 u)] w fun e w'=>e=.returned (.tuple #[.agg (WA .u8 32 (shF k u)),.bool (shZ k u)])∧Below w.heap.size w w':=by
 have h:=Fld.rshared_any (nm k) (nm u) w (Zn hk);rw[Nb hk,Nb hu,LM] at h;exact h
theorem Dz(k:Nat→Int)(w:World)(hP:Fld.PrimeAt w)(hk:Byts 32 k):Calls prog 18 #[.agg (WA .u8 32 k)] w fun e w'=>e=.returned (.agg (WA .u8 32 (BT k)))∧Below w.heap.size w w':=by
 have h:=Fld.public_any (nm k) w hP (Zn hk);rw[Nb hk,LM] at h;exact h
theorem LP(k u:Nat→Int)(w:World)(hP:Fld.PrimeAt w)(hk:Byts 32 k)(hu:Byts 32 u):Calls prog 118 #[.agg (WA .u8 32 k),.agg (WA .u8 32 u)] w fun e w'=>e=.returned (.tuple #[.agg (WA .u8 32 (shF k u)),.bool (shZ k u)])∧Below w.heap.size w w':=by
 have h:=Fld.shared_any (nm k) (nm u) w hP (Zn hk);rw[Nb hk,Nb hu,LM] at h;exact h
def Bx(n:Int):ByteArray:=mkS 4 (AM n)
theorem D0(n:Int):(Bx n).size=4:=Ar _ _
theorem Uk(n:Int)(w:World)(hn:W32 n):Calls prog 44 #[.int .u32 n] w fun e w'=>e=.returned (.string (Bx n))∧Below w.heap.size w w':=by
 have g0:ArrAt (w.alloc (.cells #[.int .u8 (n%256),.int .u8 (n/256%256),.int .u8 (n/65536%256),.int .u8 (n/16777216)] 5)) w.heap.size .u8 5 4 (AM n):=by
  have h:=heap_alloc_new w (.cells #[.int .u8 (n%256),.int .u8 (n/256%256),.int .u8 (n/65536%256),.int .u8 (n/16777216)] 5);unfold ArrAt
  have e:(WA .u8 4 (AM n))=#[.int .u8 (n%256),.int .u8 (n/256%256),.int .u8 (n/65536%256),.int .u8 (n/16777216)]:=by
   have e3:n/16777216%256=n/16777216:=by unfold W32 at hn;omega
   have e0:AM n 0=n%256:=by unfold AM;rw[Int.pow_zero,Int.ediv_one]
   have e1:AM n 1=n/256%256:=rfl;have e2:AM n 2=n/65536%256:=rfl;have e4:AM n 3=n/16777216:=by rw[←e3];rfl
   show #[Value.int .u8 (AM n 0),Value.int .u8 (AM n 1),Value.int .u8 (AM n 2),Value.int .u8 (AM n 3)]=_;rw[e0,e1,e2,e4]
  rw[e];exact h
 have hcv:=AD 4 w.heap.size 4 _ 4 (AM n) g0.row (fun j _=>Ej n j) rfl;have hB:Below w.heap.size w (w.alloc (.cells #[.int .u8 (n%256),.int .u8 (n/256%256),.int .u8 (n/65536%256),.int .u8 (n/16777216)] 5)):=(Below.refl _ w).alloc (Acg _) _;unfold W32 at hn;go_enter func44,ntmps44;go_wp2_with fail
 go_ret
 exact⟨rfl,hB⟩
def Kt(s:ByteArray):Int:=txt s 0+txt s 1*256+txt s 2*65536+txt s 3*16777216
theorem Xh(s:ByteArray)(w:World)(hs:s.size=4):Calls prog 49 #[.string s] w fun e w'=>e=.returned (.int .u32 (Kt s))∧Below w.heap.size w w':=by
 have i0:0<s.size:=by omega
 have i1:1<s.size:=by omega
 have i2:2<s.size:=by omega
 have i3:3<s.size:=by omega
 have b0:=Bn s 0;have b1:=Bn s 1;have b2:=Bn s 2;have b3:=Bn s 3;have t0:=C3 i0;have t1:=C3 i1;have t2:=C3 i2;have t3:=C3 i3;have HN:Hid (txt s 0+txt s 1*256+txt s 2*65536+txt s 3*16777216=Kt s):=Hid.mk rfl;generalize Kt s=z at *;generalize txt s 0=x0 at *;generalize txt s 1=x1 at *;generalize txt s 2=x2 at *;generalize txt s 3=x3 at *;go_enter func49,ntmps49;go_wp2_with fail
 go_region
 go_wp2_with fail
 go_ret
 exact⟨by rw[←HN.out];rfl,(Below.refl _ _).drew⟩
section
variable {b:Nat} {w w':World}
theorem RowsAt.touch{B n a:Nat}{F:Nat→Nat→Int}(h:RowsAt w B n a F)(t:Touch (fun x=>x=b) w w')(hb:B≠b):RowsAt w' B n a F:=h.block (t.block B h.lt hb)
theorem ArrAt.tou{g n:Nat}{k:IntKind}{ty:TypeId}{s:Nat→Int}(h:ArrAt w g k ty n s)(t:Touch (fun x=>x=b) w w')(hb:g≠b):ArrAt w' g k ty n s:=h.block (t.block g h.lt hb)
end
theorem Ul(key nonce:Nat→Int)(box beside:ByteArray):(Bc key nonce box beside).2=0∨Bc key nonce box beside=(⟨#[]⟩,13):=by
 unfold Bc
 split
 ·exact .inl rfl
 ·exact .inr rfl
def SC(n:Nat)(V:Nat→Value):Array Value:=((Aco n).map V).toArray
theorem CG(n:Nat)(V:Nat→Value):(SC n V).size=n:=by simp[SC]
theorem Oi(n:Nat)(V:Nat→Value)(i:Nat)(h:i<n):(SC n V)[i]?=some (V i):=by simp[SC,h]
theorem Xi{n:Nat}{V:Nat→Value}(h:∀i,(V i).oneCell'=true):(SC n V).all (·.oneCell')=true:=by
 rw[Array.all_eq_true_iff_forall_mem];intro v hv;simp only[SC,List.mem_toArray,List.mem_map] at hv;obtain⟨i,_,rfl⟩:=hv;exact h i
def Mq(ty n:Nat):Prop:=∃d,Tryz.prog.underlying ty=some d∧(match d with | .struct _ | .array _ _=>true | _=>false)=true∧(Tryz.prog.info? ty).map (·.size)=some n
def SAt(w:World)(b:Nat)(ty:TypeId)(n:Nat)(V:Nat→Value):Prop:=w.heap[b]?=some (.cells (SC n V) ty (0,0))
section
variable {w w':World} {b n:Nat} {ty:TypeId} {V:Nat→Value}
theorem SAt.at(h:SAt w b ty n V)(i:Nat)(hi:i<n):w.cell? ⟨b,i,none⟩=some (V i):=by
 rw[cell_of_row w b i _ _ _ h,Oi n V i hi]
theorem SAt.lt(h:SAt w b ty n V):b<w.heap.size:=Aa h
theorem SAt.block(h:SAt w b ty n V)(e:w'.heap[b]?=w.heap[b]?):SAt w' b ty n V:=e.trans h
theorem SAt.kept(h:SAt w b ty n V)(hb:Below w.heap.size w w'):SAt w' b ty n V:=h.block (hb.block b h.lt)
theorem SAt.only{g:Nat}(h:SAt w b ty n V)(ho:Only g w w')(hB:b≠g):SAt w' b ty n V:=h.block (ho.block b hB)
theorem SAt.tou{g:Nat}(h:SAt w b ty n V)(t:Touch (fun x=>x=g) w w')(hB:b≠g):SAt w' b ty n V:=h.block (t.block b h.lt hB)
theorem SAt.range{o m:Nat}{s:Nat→Int}(h:SAt w b ty n V)(hm:o+m≤n)(hv:∀j,j<m→V (o+j)=.int .u8 (s j)):w.rangeAt b o (AC .u8 m s):=fun j v hj=>by
 obtain⟨hj2,rfl⟩:=B6 hj;rw[h.at (o+j) (by omega),hv j hj2]
end
theorem En{ops:Array Oper}{rest:List Oper}{d:Option Tmp}{x y:Operand}{t ty:TypeId}{ps:String}{af:Array Edge}{a:Act}{w:World}{Q:Exit→Act→World→Prop}{g n:Nat}{V V':Nat→Value}(hA:Mq ty n)(h1:∀i,(V i).oneCell'=true)(hg:SAt w g ty n V')(hx:a.eval x=.pointer (some ⟨g,0,none⟩))(hy:a.eval y=.agg (SC n V))(h:∀w2,SAt w2 g ty n V→Only g w w2→wpList prog ops Q rest (a.put d undef) w2):wpList prog ops Q ({ dst:=d,op:=.store ty x y,type:=t,pos:=ps,after:=af,guard:=none }::rest) a w:=by
 obtain⟨_,_,_,h3⟩:=hA;exact Ia rfl ty x y rfl g _ hx hy ty _ hg (by rw[CG];exact h3) (by rw[CG,CG]) (Xi h1) h
theorem Es{a:Act}{o:Oper}{w:World}{x:Operand}{ty:TypeId}{g n:Nat}{V:Nat→Value}(ho:o.op=.load ty x)(hA:Mq ty n)(hg:SAt w g ty n V)(hx:a.eval x=.pointer (some ⟨g,0,none⟩)):(execOp a.eval o).run prog w=.ok (.value (.agg (SC n V))) w:=by
 obtain⟨d,h1,h2,h3⟩:=hA;unfold execOp;simp only[ho,hx];have:=run_loadVar_row (P:=prog) w g ty ty (SC n V) (0,0) _ hg h1 (by cases d<;>first | rfl | exact h2) (by rw[CG];exact h3);simp[Instr.loadAt,Instr.sureAddr,this]
def Cl(H C O R P:Nat→Int)(l f:Int)(i:Nat):Value:=if i<32 then .int .u8 (H i) else if i<64 then .int .u8 (C (i-32)) else if i<96 then .int .u8 (O (i-64)) else if i<128 then .int .u8 (R (i-96)) else if i<160 then .int .u8 (P (i-128)) else if i<161 then .int .u32 l else .int .u32 f
def Bk:Nat→Value:=Cl (fun _=>0) (fun _=>0) (fun _=>0) (fun _=>0) (fun _=>0) 0 0
theorem Bu(H C O R P:Nat→Int)(l f:Int)(i:Nat):(Cl H C O R P l f i).oneCell'=true:=by unfold Cl;(repeat' split)<;>rfl
theorem AV:Mq 31 162:=⟨_,underlying31,rfl,by kernel_rfl⟩
section
variable {w:World} {b:Nat} {H C O R P S:Nat→Int} {l f:Int}
end
theorem Xj(w:World):(Instr.build 31 #[]).run prog w=.ok (.agg (SC 162 Bk)) w:=by kernel_rfl
theorem Xk(H C O P:Nat→Int)(l:Int)(w:World):(Instr.build 31 #[(0,.agg (WA .u8 32 H)),(1,.agg (WA .u8 32 C)),(2,.agg (WA .u8 32 O)),(4,.agg (WA .u8 32 P)),(5,.int .u32 l)]).run prog w=.ok (.agg (SC 162 (Cl H C O (fun _=>0) P l 0))) w:=by kernel_rfl
theorem Xl(H C R P:Nat→Int)(f:Int)(w:World):(Instr.build 31 #[(0,.agg (WA .u8 32 H)),(1,.agg (WA .u8 32 C)),(3,.agg (WA .u8 32 R)),(4,.agg (WA .u8 32 P)),(6,.int .u32 f)]).run prog w=.ok (.agg (SC 162 (Cl H C (fun _=>0) R P 0 f))) w:=by kernel_rfl
theorem DA{a:Act}{o:Oper}{w:World}(ho:o.op=.build 31 #[]):(execOp a.eval o).run prog w=.ok (.value (.agg (SC 162 Bk))) w:=by
 have h:=Xj w;unfold execOp;simp only[ho,Acs,Acq,Sem.run_bind,h,Result.andThen_ok,Sem.run_pure]
theorem Nc{a:Act}{o:Oper}{w:World}{x y z u q:Operand}(ho:o.op=.build 31 #[(0,x),(1,y),(2,z),(4,u),(5,q)]){H C O P:Nat→Int}{l:Int}(hx:a.eval x=.agg (WA .u8 32 H))(hy:a.eval y=.agg (WA .u8 32 C))(hz:a.eval z=.agg (WA .u8 32 O))(hu:a.eval u=.agg (WA .u8 32 P))(hq:a.eval q=.int .u32 l):(execOp a.eval o).run prog w=.ok (.value (.agg (SC 162 (Cl H C O (fun _=>0) P l 0)))) w:=by
 have h:=Xk H C O P l w;unfold execOp;simp only[ho,Acs,Acu,Acq,hx,hy,hz,hu,hq,Sem.run_bind,h,Result.andThen_ok,Sem.run_pure]
theorem Nd{a:Act}{o:Oper}{w:World}{x y z u q:Operand}(ho:o.op=.build 31 #[(0,x),(1,y),(3,z),(4,u),(6,q)]){H C R P:Nat→Int}{f:Int}(hx:a.eval x=.agg (WA .u8 32 H))(hy:a.eval y=.agg (WA .u8 32 C))(hz:a.eval z=.agg (WA .u8 32 R))(hu:a.eval u=.agg (WA .u8 32 P))(hq:a.eval q=.int .u32 f):(execOp a.eval o).run prog w=.ok (.value (.agg (SC 162 (Cl H C (fun _=>0) R P 0 f)))) w:=by
 have h:=Xl H C R P f w;unfold execOp;simp only[ho,Acs,Acu,Acq,hx,hy,hz,hu,hq,Sem.run_bind,h,Result.andThen_ok,Sem.run_pure]
theorem Ke(args:Array Value)(w:World):(callFunc 43 args).run prog w=.ok (.enter 43 args) w:=by kernel_rfl
theorem Oj(args:Array Value)(w:World):(callFunc 39 args).run prog w=.ok (.enter 39 args) w:=by kernel_rfl
theorem QK(args:Array Value)(w:World):(callFunc 44 args).run prog w=.ok (.enter 44 args) w:=by kernel_rfl
theorem Fj{v0:World}{b:Nat}{c:Cont}(w w':World)(h:Touch (fun x=>x=b) v0 w)(ht:Touch (fun k=>v0.heap.size≤k∨k∈[(b,c)].map (·.1)) w w'):Touch (fun x=>x=b) v0 w':=
 ⟨ht.os.trans h.os,ht.tape.trans h.tape,ht.output.trans h.output,Acp h.size ht.size,fun k hk hn=>(ht.block k (by have:=h.size;omega) (fun e=>e.elim (fun e=>by omega) (fun e=>hn (by simpa using e)))).trans (h.block k hk hn)⟩
theorem RY{f:FuncId}(hc:∀args w,(callFunc f args).run prog w=.ok (.enter f args) w){xs:Array Operand}{ts:Array TypeId}{o:Oper}{a:Act}{w:World}{K:Act→World→Prop}{Q:Exit→Act→World→Prop}(ho:o.op=.call { callee:=.value (.func f),args:=xs,argTypes:=ts }){vs:Array Value}{v:Value}{b:Nat}{H C:Nat→Int}(hx:xs.map a.eval=vs)(hC:Calls prog f vs w fun r w'=>r=.returned v∧StAt w' b H C∧Touch (fun x=>x=b) w w')(h:∀w',StAt w' b H C→Touch (fun x=>x=b) w w'→K (a.put o.dst v) w'):o.wp prog a w K Q:=
 KC hc ho hx (hC.mono (fun e w' ⟨he,hb⟩=>⟨v,he,rfl,hb⟩)) (R:=fun u w'=>u=v∧StAt w' b H C∧Touch (fun x=>x=b) w w') (fun u w' ⟨hu,h1,h2⟩=>by subst hu;exact h w' h1 h2)
theorem IZ{fn:Func}{p q r:Tmp}{ty:TypeId}(h:fn.results=#[.tmp p,.cell q ty,.tmp r]){tmps:Array Value}{w:World}{g n:Nat}{V:Nat→Value}{x z:Value}(hA:Mq ty n)(hg:SAt w g ty n V)(hp:tmps.getD p undef=x)(hq:tmps.getD q undef=.pointer (some ⟨g,0,none⟩))(hr:tmps.getD r undef=z):(results fn tmps).run prog w=.ok (.tuple #[x,.agg (SC n V),z]) w:=by
 obtain⟨d,h1,h2,h3⟩:=hA;have hp':tmps[p]?.getD undef=x:=by simpa using hp
 have hq':tmps[q]?.getD undef=.pointer (some ⟨g,0,none⟩):=by simpa using hq
 have hr':tmps[r]?.getD undef=z:=by simpa using hr
 have:=run_loadVar_row (P:=prog) w g ty ty (SC n V) (0,0) _ hg h1 (by cases d<;>first | rfl | exact h2) (by rw[CG];exact h3);simp[results,h,hp',hq',hr',asAddr,this]
theorem BU:zeroCells31=SC 162 Bk:=by kernel_rfl
theorem D1{ops:Array Oper}{rest:List Oper}{d:Option Tmp}{t:TypeId}{ps:String}{af:Array Edge}{a:Act}{w:World}{Q:Exit→Act→World→Prop}(h:∀w',ArrAt w' w.heap.size .u8 22 32 (fun _=>0)→Below w.heap.size w w'→wpList prog ops Q rest (a.put d (.pointer (some ⟨w.heap.size,0,none⟩))) w'):wpList prog ops Q ({ dst:=d,op:=.alloc 22,type:=t,pos:=ps,after:=af,guard:=none }::rest) a w:=
 CZ rfl (Bi Ju rfl (fun w' hb hg=>h w' hg hb))
theorem CH{o:Oper}{a:Act}{w:World}{K:Act→World→Prop}{Q:Exit→Act→World→Prop}{x y:Operand}{ty:TypeId}{g n:Nat}{V V':Nat→Value}(ho:o.op=.store ty x y)(hA:Mq ty n)(h1:∀i,(V i).oneCell'=true)(hx:a.eval x=.pointer (some ⟨g,0,none⟩))(hy:a.eval y=.agg (SC n V))(hg:SAt w g ty n V')(h:∀w2,SAt w2 g ty n V→Only g w w2→K (a.put o.dst undef) w2):o.wp prog a w K Q:=by
 obtain⟨_,_,_,h3⟩:=hA;have hrun:=run_storeVar_row (P:=prog) w g ty ty (SC n V') (SC n V) hg (by rw[CG];exact h3) (by rw[CG,CG]) (Xi h1);unfold Oper.wp execOp;simp only[ho,hx,hy,Instr.storeAt,Instr.sureAddr,Sem.run_bind,Sem.run_pure,Result.andThen_ok,hrun];exact h _ (setRow_heap w g (SC n V') (SC n V) ty (0,0) hg) (Cd w g _)
theorem Py{a:Act}{o:Oper}{w:World}{x:Operand}(ho:o.op=.fieldAddr 84 x 1){b:Nat}(hx:a.eval x=.pointer (some ⟨b,0,none⟩)):(execOp a.eval o).run prog w=.ok (.value (.pointer (some ⟨b,32,none⟩))) w:=by
 have h:=VZ b 1 w (by decide);unfold execOp;simp only[ho,hx,Sem.run_bind,h,Result.andThen_ok,Sem.run_pure];rfl
def Zo(P E C0:Nat→Int):Nat→Nat→Int:=chn (chn C0 (mkS 32 (BT E)) 0) (mkS 32 (shF E P))
def bgA(O P E H0 C0:Nat→Int):ByteArray:=Ek (Zo P E C0 1) B9 (mkS 32 (BT O)) (mkS 32 (BX H0 (mkS 32 (BT E))))
def Um(O P E C0:Nat→Int):Nat→Nat→Int:=chn (Zo P E C0 0) (mkS 32 (shF O P))
def Zp(O P E H0 C0:Nat→Int):Nat→Int:=BX (BX H0 (mkS 32 (BT E))) (bgA O P E H0 C0)
def bgB(O P E T H0 C0:Nat→Int):ByteArray:=Ek (Um O P E C0 1) B9 (mkS 12 T) (mkS 32 (Zp O P E H0 C0))
def Xm(O P E T H0 C0:Nat→Int):Nat→Int:=BX (Zp O P E H0 C0) (bgB O P E T H0 C0)
def Fr(O P E T H0 C0:Nat→Int)(ix:Int):Value:=if shZ E P=true∧shZ O P=true then .tuple #[.string (⟨#[1,0,0,0]⟩++Bx ix++mkS 32 (BT E)++bgA O P E H0 C0++bgB O P E T H0 C0),.agg (SC 162 (Cl (Xm O P E T H0 C0) (Um O P E C0 0) E (fun _=>0) P ix 0)),.int .i64 0] else .tuple #[.string ⟨#[]⟩,.agg (SC 162 Bk),.int .i64 18]
set_option linter.unusedVariables false in
theorem Pz(O P E T H0 C0:Nat→Int)(ix:Int)(w:World)(hO:Byts 32 O)(hP:Byts 32 P)(hE:Byts 32 E)(hT:Byts 12 T)(hix:W32 ix)(hC0:Byts 32 C0)(hH0:Byts 32 H0)(hBeg:∀u,Calls prog 37 #[.agg (WA .u8 32 P)] u fun e w'=>∃b,u.heap.size≤b∧e=.returned (.pointer (some ⟨b,0,none⟩))∧StAt w' b H0 C0∧Below u.heap.size u w'):Calls prog 10 #[.agg (WA .u8 32 O),.agg (WA .u8 32 P),.agg (WA .u8 32 E),.agg (WA .u8 12 T),.int .u32 ix] w fun e w'=>e=.returned (Fr O P E T H0 C0 ix)∧Below w.heap.size w w':=by
 obtain⟨R,hRR⟩:∃R,Fr O P E T H0 C0 ix=R:=⟨_,rfl⟩;rw[hRR];obtain⟨z1,hz1⟩:∃z,shZ E P=z:=⟨_,rfl⟩;obtain⟨z2,hz2⟩:∃z,shZ O P=z:=⟨_,rfl⟩;have hb4:Below (((((w.alloc (.cells (WA .u8 32 O) 22)).alloc (.cells (WA .u8 32 P) 22)).alloc (.cells (WA .u8 32 E) 22)).alloc (.cells (WA .u8 12 T) 26))).heap.size ((((w.alloc (.cells (WA .u8 32 O) 22)).alloc (.cells (WA .u8 32 P) 22)).alloc (.cells (WA .u8 32 E) 22)).alloc (.cells (WA .u8 12 T) 26)) (((((w.alloc (.cells (WA .u8 32 O) 22)).alloc (.cells (WA .u8 32 P) 22)).alloc (.cells (WA .u8 32 E) 22)).alloc (.cells (WA .u8 12 T) 26)).alloc (.cells zeroCells31 31)):=(Below.refl _ _).alloc (Acg _) _;have g0:ArrAt (((((w.alloc (.cells (WA .u8 32 O) 22)).alloc (.cells (WA .u8 32 P) 22)).alloc (.cells (WA .u8 32 E) 22)).alloc (.cells (WA .u8 12 T) 26)).alloc (.cells zeroCells31 31)) w.heap.size .u8 22 32 O:=ArrAt.kept (Iz w _ _ _ _) hb4;have g1:ArrAt (((((w.alloc (.cells (WA .u8 32 O) 22)).alloc (.cells (WA .u8 32 P) 22)).alloc (.cells (WA .u8 32 E) 22)).alloc (.cells (WA .u8 12 T) 26)).alloc (.cells zeroCells31 31)) (w.heap.size+1) .u8 22 32 P:=ArrAt.kept (I0 w _ _ _ _) hb4;have g2:ArrAt (((((w.alloc (.cells (WA .u8 32 O) 22)).alloc (.cells (WA .u8 32 P) 22)).alloc (.cells (WA .u8 32 E) 22)).alloc (.cells (WA .u8 12 T) 26)).alloc (.cells zeroCells31 31)) (w.heap.size+1+1) .u8 22 32 E:=ArrAt.kept (I1 w _ _ _ _) hb4;have g3:ArrAt (((((w.alloc (.cells (WA .u8 32 O) 22)).alloc (.cells (WA .u8 32 P) 22)).alloc (.cells (WA .u8 32 E) 22)).alloc (.cells (WA .u8 12 T) 26)).alloc (.cells zeroCells31 31)) (w.heap.size+1+1+1) .u8 26 12 T:=ArrAt.kept (GU w _ _ _ _) hb4
 have gH:SAt (((((w.alloc (.cells (WA .u8 32 O) 22)).alloc (.cells (WA .u8 32 P) 22)).alloc (.cells (WA .u8 32 E) 22)).alloc (.cells (WA .u8 12 T) 26)).alloc (.cells zeroCells31 31)) (w.heap.size+1+1+1+1) 31 162 Bk:=by
  have h:=heap_alloc_new ((((w.alloc (.cells (WA .u8 32 O) 22)).alloc (.cells (WA .u8 32 P) 22)).alloc (.cells (WA .u8 32 E) 22)).alloc (.cells (WA .u8 12 T) 26)) (.cells zeroCells31 31);have e:(((((w.alloc (.cells (WA .u8 32 O) 22)).alloc (.cells (WA .u8 32 P) 22)).alloc (.cells (WA .u8 32 E) 22)).alloc (.cells (WA .u8 12 T) 26))).heap.size=w.heap.size+1+1+1+1:=by simp
  rw[e] at h;unfold SAt;rw[←BU];exact h
 have hB:Below w.heap.size w (((((w.alloc (.cells (WA .u8 32 O) 22)).alloc (.cells (WA .u8 32 P) 22)).alloc (.cells (WA .u8 32 E) 22)).alloc (.cells (WA .u8 12 T) 26)).alloc (.cells zeroCells31 31)):=(((((Below.refl _ w).alloc (by simp) _).alloc (by simp) _).alloc (by simp;omega) _).alloc (by simp;omega) _).alloc (by simp;omega) _;have hs5:((((((w.alloc (.cells (WA .u8 32 O) 22)).alloc (.cells (WA .u8 32 P) 22)).alloc (.cells (WA .u8 32 E) 22)).alloc (.cells (WA .u8 12 T) 26)).alloc (.cells zeroCells31 31))).heap.size=w.heap.size+1+1+1+1+1:=by simp
 have HOO:=Hid.mk hO;have HTT:=Hid.mk hT;clear hb4;go_enter func10,ntmps10
 go_wp2_with (refine Aq Af g1 (by rfl) ?_)
 refine(hBeg _).mono ?_;rintro x u0 ⟨b,hbb,rfl,g,hb⟩;replace hbb:w.heap.size+1+1+1+1+1≤b:=by rw[←hs5];exact hbb
 replace g0:=g0.kept hb;replace g1:=g1.kept hb;replace g2:=g2.kept hb;replace g3:=g3.kept hb;replace gH:=gH.kept hb;replace hB:=hB.trans (hb.mono hB.size);clear hb;clear hBeg hs5
 go_wp2_with (refine Aq Af g2 (by rfl) ?_)
 refine(GL E _ hE).mono ?_;rintro x u1 ⟨rfl,hb⟩;replace g0:=g0.kept hb;replace g1:=g1.kept hb;replace g2:=g2.kept hb;replace g3:=g3.kept hb;replace gH:=gH.kept hb;replace g:=g.kept hb;replace hB:=hB.trans (hb.mono hB.size);clear hb;go_wp2_with fail;refine(C5 (BT E) _ (GK E 32)).mono ?_;rintro x u ⟨rfl,hb⟩;replace g0:=g0.kept hb;replace g1:=g1.kept hb;replace g2:=g2.kept hb;replace g3:=g3.kept hb;replace gH:=gH.kept hb;replace g:=g.kept hb;replace hB:=hB.trans (hb.mono hB.size);clear hb;have he:(mkS 32 (BT E)).size≤140737488355328:=by rw[Ar];omega
 obtain⟨e,hee⟩:∃e,mkS 32 (BT E)=e:=⟨_,rfl⟩;rw[hee] at he;rw[hee];go_wp2_with fail;refine(D9 b 1 H0 C0 e _ g hC0 he (by omega) (by omega)).mono ?_;rintro x u2 ⟨gl1,cl1,rfl,_,_,g',t1⟩;replace g0:=g0.tou t1 (by omega);replace g1:=g1.tou t1 (by omega);replace g2:=g2.tou t1 (by omega);replace g3:=g3.tou t1 (by omega);replace gH:=gH.tou t1 (by omega);replace hB:=AU hB t1 (by omega) (Acg _);clear t1;clear g;have hC1:Byts 32 (chn C0 e 0):=Dr _ _ 0 32;generalize hC1e:chn C0 e 0=C1 at *;go_wp2_with fail;refine(F0 b H0 C1 e _ g' hH0 (by omega)).mono ?_;rintro x u3 ⟨rfl,g,t1⟩;replace g0:=g0.tou t1 (by omega);replace g1:=g1.tou t1 (by omega);replace g2:=g2.tou t1 (by omega);replace g3:=g3.tou t1 (by omega);replace gH:=gH.tou t1 (by omega);replace hB:=AU hB t1 (by omega) (Acg _);clear t1;clear g';have hH1:Byts 32 (BX H0 e):=C6 _ _ 32;generalize hH1e:BX H0 e=H1 at *
 go_wp2_with (first|(refine Aq Af g2 (by rfl) ?_)|(refine Aq Af g1 (by rfl) ?_))
 refine(Fi E P _ hE hP).mono ?_;rintro x u4 ⟨rfl,hb⟩;replace g0:=g0.kept hb;replace g1:=g1.kept hb;replace g2:=g2.kept hb;replace g3:=g3.kept hb;replace gH:=gH.kept hb;replace g:=g.kept hb;replace hB:=hB.trans (hb.mono hB.size);clear hb;rw[hz1];have hs1:=Px E P 32;generalize hs1e:shF E P=s1 at *;have hgl:=g.lt
 go_wp2_with (first|(refine D1 ?_;intro u5 gs hb;refine Hid.out ?_))
 replace g0:=g0.kept hb;replace g1:=g1.kept hb;replace g2:=g2.kept hb;replace g3:=g3.kept hb;replace gH:=gH.kept hb;replace g:=g.kept hb;replace hB:=hB.trans (hb.mono hB.size);clear hb;refine Hid.mk ?_
 go_wp2_with (refine A1 Af gs (by rfl) (by rfl) ?_;intro u6 gs6 o6;refine Hid.out ?_)
 have hgHl:=gH.lt;replace g0:=g0.only o6 (by omega);replace g1:=g1.only o6 (by omega);replace g2:=g2.only o6 (by omega);replace g3:=g3.only o6 (by omega);replace gH:=gH.only o6 (by omega);replace g:=g.block (o6.block b (by omega));replace hB:=hB.trans (o6.below (by omega));clear o6;refine Hid.mk ?_;cases z1
 ·go_wp2_with (first|(refine Ae rfl (DA rfl) ?_)|(refine En AV (Bu _ _ _ _ _ _ _) gH (by rfl) (by rfl) ?_;intro u9 gH o9;refine Hid.out ?_))
  refine Hid.mk ?_;replace hB:=hB.trans (o9.below (by omega));go_wp2_with fail;exact bodyPost_ret (v:=.tuple #[.string ⟨#[]⟩,.agg (SC 162 Bk),.int .i64 18]) (IZ results10 AV gH (by rfl) (by rfl) (by rfl)) rfl ⟨by rw[←hRR];unfold Fr;rw[if_neg (fun h=>by rw[hz1] at h;exact absurd h.1 (by decide))],hB⟩
 go_wp2_with (refine Aq Af gs6 (by rfl) ?_)
 refine(C5 s1 _ hs1).mono ?_;rintro x u7 ⟨rfl,hb⟩;replace g0:=g0.kept hb;replace g1:=g1.kept hb;replace g2:=g2.kept hb;replace g3:=g3.kept hb;replace gH:=gH.kept hb;replace gs6:=gs6.kept hb;replace g:=g.kept hb;replace hB:=hB.trans (hb.mono hB.size);clear hb;go_wp2_with fail;have hz7:=g.lt;have hz6:=gs6.lt;have hz5:=gH.lt;refine(D9 b 2 H1 C1 (mkS 32 s1) _ g hC1 (by rw[Ar];omega) (by omega) (by omega)).mono ?_;rintro x u8 ⟨gl,cl,rfl,hgl2,rL,g',t1⟩;replace g0:=g0.tou t1 (by omega);replace g1:=g1.tou t1 (by omega);replace g2:=g2.tou t1 (by omega);replace g3:=g3.tou t1 (by omega);replace gH:=gH.tou t1 (by omega);replace gs6:=gs6.tou t1 (by omega);replace hB:=AU hB t1 (by omega) (Acg _);clear t1;clear g;have g:=g';clear g';obtain⟨L,hLe⟩:∃L,chn C1 (mkS 32 s1)=L:=⟨_,rfl⟩;have hL:∀i,Byts 32 (L i):=fun i=>hLe▸Dr _ _ i 32
 rw[hLe] at g rL;go_wp2_with fail;have HRL:Hid (∀u,Touch (fun x=>x=b) u8 u→RowsAt u gl 2 0 L):=Hid.mk (fun u hu=>rL.touch hu (by omega));have HG0:Hid (∀u,Touch (fun x=>x=b) u8 u→ArrAt u w.heap.size .u8 22 32 O):=Hid.mk (fun u hu=>g0.tou hu (by omega));have HG3:Hid (∀u,Touch (fun x=>x=b) u8 u→ArrAt u (w.heap.size+1+1+1) .u8 26 12 T):=Hid.mk (fun u hu=>g3.tou hu (by omega));have HSE:=Hid.mk (fun u gu=>Ln b (L 1) H1 (L 0) (mkS 32 (BT O)) u gu (hL 1) hH1 (by rw[Ar];omega));have hZas:(Ek (L 1) B9 (mkS 32 (BT O)) (mkS 32 H1)).size≤48:=by rw[E6,Ar];omega
 obtain⟨Za,hZa⟩:∃Z,Ek (L 1) B9 (mkS 32 (BT O)) (mkS 32 H1)=Z:=⟨_,rfl⟩;rw[hZa] at HSE hZas;obtain⟨H2,hH2e⟩:∃X,BX H1 Za=X:=⟨_,rfl⟩;rw[hH2e] at HSE;have hH2:Byts 32 H2:=hH2e▸C6 _ _ 32;refine Ai (Touch (fun x=>x=b) u8) u8.heap.size
   [(b,once (WA .u8 64 (cat 32 H1 (L 0))) 84 7 (WA .u8 64 (cat 32 H2 (L 0))))]
   [kv (.pointer (some ⟨b,0,none⟩)),kv (.slice (some ⟨gl,0,none⟩) 2 cl),kv (.pointer (some ⟨gl,1*32,none⟩)),kv (.agg (WA .u8 32 (L 1))),kv (.agg (WA .u8 32 O)),kv (.agg (WA .u8 32 (BT O))),kv (.string (mkS 32 (BT O))),kv (.string Za),kv (.string Za)]
   [.none,.none,.none,.none,.none,.none,.none,.base 0 1]
   [some 44,some 45,some 46,some 47,some 48,some 49,some 50,some 51,some 18]
   [(13,.pointer (some ⟨b,0,none⟩)),(17,.slice (some ⟨gl,0,none⟩) 2 cl),(5,.pointer (some ⟨w.heap.size,0,none⟩))]
   [[],[],[.slot 1],[.slot 2],[],[.slot 4],[.slot 5],[.slot 0,.slot 3,.slot 6,.base 0 0],[.slot 7]]
   [.base 0 1,.slot 8] [44,45,46,47,48,49,50,51,18]
   rfl (by kernel_rfl) ⟨rfl,rfl,rfl,trivial⟩ (DQ b (Below.refl _ u8).drew) (Acg _) ⟨⟨g.lt,Al g⟩,trivial⟩ ⟨trivial,trivial⟩ Fj
   ⟨
    sL fun f _=>sV (Ab rfl f.1),
    sL fun f _=>sV (Ab rfl f.2.1),
    sL fun _ k=>sV (De (i:=1) rfl k.1 rfl (by omega)),
    (fun _ _ ww _ hS _ _ kn=>sV (Ao rfl Af kn.1 ((HRL.out ww hS).range (Nat.zero_le 1) (by omega)))),
    (fun _ _ ww _ hS _ fr _=>sV (AA rfl Af (HG0.out ww hS) fr.2.2.1)),
    (fun _ _ ww _ _ _ _ kn=>.inl ⟨trivial,fun K hK=>AH Oj rfl (BI kn.1) (GL O ww HOO.out) (fun w' hb=>hK _ _ ⟨Ac hb,rfl⟩)⟩),
    (fun _ _ ww _ _ _ _ kn=>.inl ⟨trivial,fun K hK=>AH Il rfl (BI kn.1) (C5 (BT O) ww (GK O 32)) (fun w' hb=>hK _ _ ⟨Ac hb,rfl⟩)⟩),
    (fun _ _ ww _ _ _ _ kn=>.inl ⟨trivial,fun K hK=>RY Ke rfl (Gu kn.1 kn.2.1 kn.2.2.1) (HSE.out ww (Ak kn.2.2.2.1)) (fun w' hg ht=>hK _ _ ⟨⟨ht,Al hg⟩,rfl⟩)⟩),
    sL fun _ k=>sV (Av rfl k.1),
    trivial⟩ ?_
 intro vs own u9 hT1 hsz kn inj;clear inj hsz;have g7:StAt u9 b H2 (L 0):=Ak kn.1;have e7:vs 18=_:=kn.2.1;clear kn HRL HG0 HG3 HSE g;have g:=g7;clear g7;replace g0:=g0.tou hT1 (by omega);replace g1:=g1.tou hT1 (by omega);replace g2:=g2.tou hT1 (by omega);replace g3:=g3.tou hT1 (by omega);replace gH:=gH.tou hT1 (by omega);replace gs6:=gs6.tou hT1 (by omega);replace hB:=AU hB hT1 (by omega) (Acg _);clear hT1;simp only[Am,Act.put,Aci,Acj,Ach,e7];clear e7
 go_wp2_with (first|(refine Aq Af g0 (by rfl) ?_)|(refine Aq Af g1 (by rfl) ?_))
 refine(Fi O P _ hO hP).mono ?_;rintro x u10 ⟨rfl,hb⟩;replace g0:=g0.kept hb;replace g1:=g1.kept hb;replace g2:=g2.kept hb;replace g3:=g3.kept hb;replace gH:=gH.kept hb;replace gs6:=gs6.kept hb;replace g:=g.kept hb;replace hB:=hB.trans (hb.mono hB.size);clear hb;rw[hz2];have hs2:=Px O P 32;generalize hs2e:shF O P=s2 at *
 go_wp2_with (refine A1 Af gs6 (by rfl) (by rfl) ?_;intro u11 gs7 o11;refine Hid.out ?_)
 replace g0:=g0.only o11 (by omega);replace g1:=g1.only o11 (by omega);replace g2:=g2.only o11 (by omega);replace g3:=g3.only o11 (by omega);replace gH:=gH.only o11 (by omega);replace g:=g.block (o11.block b (by omega));replace hB:=hB.trans (o11.below (by omega));clear o11;refine Hid.mk ?_;cases z2
 ·go_wp2_with (first|(refine Ae rfl (DA rfl) ?_)|(refine En AV (Bu _ _ _ _ _ _ _) gH (by rfl) (by rfl) ?_;intro u9 gH o9;refine Hid.out ?_))
  refine Hid.mk ?_;replace hB:=hB.trans (o9.below (by omega));go_wp2_with fail;exact bodyPost_ret (v:=.tuple #[.string ⟨#[]⟩,.agg (SC 162 Bk),.int .i64 18]) (IZ results10 AV gH (by rfl) (by rfl) (by rfl)) rfl ⟨by rw[←hRR];unfold Fr;rw[if_neg (fun h=>by rw[hz2] at h;exact absurd h.2 (by decide))],hB⟩
 go_wp2_with (refine Aq Af gs7 (by rfl) ?_)
 refine(C5 s2 _ hs2).mono ?_;rintro x u12 ⟨rfl,hb⟩;replace g0:=g0.kept hb;replace g1:=g1.kept hb;replace g2:=g2.kept hb;replace g3:=g3.kept hb;replace gH:=gH.kept hb;replace gs7:=gs7.kept hb;replace g:=g.kept hb;replace hB:=hB.trans (hb.mono hB.size);clear hb;go_wp2_with fail;have hy7:=g.lt;have hy6:=gs7.lt;have hy5:=gH.lt;clear rL hgl2;refine(D9 b 2 H2 (L 0) (mkS 32 s2) _ g (hL 0) (by rw[Ar];omega) (by omega) (by omega)).mono ?_;rintro x u13 ⟨gl,cl,rfl,hgl2,rL,g',t1⟩;replace g0:=g0.tou t1 (by omega);replace g1:=g1.tou t1 (by omega);replace g2:=g2.tou t1 (by omega);replace g3:=g3.tou t1 (by omega);replace gH:=gH.tou t1 (by omega);replace gs7:=gs7.tou t1 (by omega);replace hB:=AU hB t1 (by omega) (Acg _);clear t1;clear g;have g:=g';clear g';obtain⟨M,hMe⟩:∃M,chn (L 0) (mkS 32 s2)=M:=⟨_,rfl⟩;have hM:∀i,Byts 32 (M i):=fun i=>hMe▸Dr _ _ i 32
 rw[hMe] at g rL;go_wp2_with fail;have HRL:Hid (∀u,Touch (fun x=>x=b) u13 u→RowsAt u gl 2 0 M):=Hid.mk (fun u hu=>rL.touch hu (by omega));have HG0:Hid (∀u,Touch (fun x=>x=b) u13 u→ArrAt u w.heap.size .u8 22 32 O):=Hid.mk (fun u hu=>g0.tou hu (by omega));have HG3:Hid (∀u,Touch (fun x=>x=b) u13 u→ArrAt u (w.heap.size+1+1+1) .u8 26 12 T):=Hid.mk (fun u hu=>g3.tou hu (by omega));have HSE:=Hid.mk (fun u gu=>Ln b (M 1) H2 (M 0) (mkS 12 T) u gu (hM 1) hH2 (by rw[Ar];omega));have hZbs:(Ek (M 1) B9 (mkS 12 T) (mkS 32 H2)).size≤48:=by rw[E6,Ar];omega
 obtain⟨Zb,hZb⟩:∃Z,Ek (M 1) B9 (mkS 12 T) (mkS 32 H2)=Z:=⟨_,rfl⟩;rw[hZb] at HSE hZbs;obtain⟨H3,hH3e⟩:∃X,BX H2 Zb=X:=⟨_,rfl⟩;rw[hH3e] at HSE;have hH3:Byts 32 H3:=hH3e▸C6 _ _ 32;refine Ai (Touch (fun x=>x=b) u13) u13.heap.size
   [(b,once (WA .u8 64 (cat 32 H2 (M 0))) 84 6 (WA .u8 64 (cat 32 H3 (M 0))))]
   [kv (.pointer (some ⟨b,0,none⟩)),kv (.slice (some ⟨gl,0,none⟩) 2 cl),kv (.pointer (some ⟨gl,1*32,none⟩)),kv (.agg (WA .u8 32 (M 1))),kv (.slice (some ⟨(w.heap.size+1+1+1),0,none⟩) 12 12),kv (.string (mkS 12 T)),kv (.string Zb),kv (.string Zb)]
   [.none,.none,.none,.none,.none,.none,.base 0 1]
   [some 65,some 66,some 67,some 68,some 69,some 70,some 71,some 19]
   [(13,.pointer (some ⟨b,0,none⟩)),(17,.slice (some ⟨gl,0,none⟩) 2 cl),(8,.pointer (some ⟨(w.heap.size+1+1+1),0,none⟩))]
   [[],[],[.slot 1],[.slot 2],[],[.slot 4],[.slot 0,.slot 3,.slot 5,.base 0 0],[.slot 6]]
   [.base 0 1,.slot 7] [65,66,67,68,69,70,71,19]
   rfl (by kernel_rfl) ⟨rfl,rfl,rfl,trivial⟩ (DQ b (Below.refl _ u13).drew) (Acg _) ⟨⟨g.lt,Al g⟩,trivial⟩ ⟨trivial,trivial⟩ Fj
   ⟨
    sL fun f _=>sV (Ab rfl f.1),
    sL fun f _=>sV (Ab rfl f.2.1),
    sL fun _ k=>sV (De (i:=1) rfl k.1 rfl (by omega)),
    (fun _ _ ww _ hS _ _ kn=>sV (Ao rfl Af kn.1 ((HRL.out ww hS).range (Nat.zero_le 1) (by omega)))),
    (fun _ _ ww _ _ _ fr _=>sV (Ci (v:=.pointer (some ⟨(w.heap.size+1+1+1),0,none⟩)) rfl fr.2.2.1 (Abt (w.heap.size+1+1+1) ww))),
    (fun _ _ ww _ hS _ _ kn=>sV (AF rfl kn.1 (AD 12 (w.heap.size+1+1+1) 12 ww 12 T (HG3.out ww hS).row HTT.out rfl))),
    (fun _ _ ww _ _ _ _ kn=>.inl ⟨trivial,fun K hK=>RY Ke rfl (Gu kn.1 kn.2.1 kn.2.2.1) (HSE.out ww (Ak kn.2.2.2.1)) (fun w' hg ht=>hK _ _ ⟨⟨ht,Al hg⟩,rfl⟩)⟩),
    sL fun _ k=>sV (Av rfl k.1),
    trivial⟩ ?_
 intro vs own u15 hT1 hsz kn inj;clear inj hsz;have g7:StAt u15 b H3 (M 0):=Ak kn.1;have e7:vs 19=_:=kn.2.1;clear kn HRL HG0 HG3 HSE g;have g:=g7;clear g7;replace g0:=g0.tou hT1 (by omega);replace g1:=g1.tou hT1 (by omega);replace g2:=g2.tou hT1 (by omega);replace g3:=g3.tou hT1 (by omega);replace gH:=gH.tou hT1 (by omega);replace gs7:=gs7.tou hT1 (by omega);replace hB:=AU hB hT1 (by omega) (Acg _);clear hT1;simp only[Am,Act.put,Aci,Acj,Ach,e7];clear e7;go_wp2_with fail;have HIX:=Hid.mk hix;have hes:e.size=32:=by rw[←hee];exact Ar _ _
 have HG:Hid (∀u,Touch (fun x=>x=(w.heap.size+1+1+1+1)) u15 u→StAt u b H3 (M 0)):=Hid.mk (fun u hu=>g.block (hu.block b g.lt (by omega)));have HG1:Hid (∀u,Touch (fun x=>x=(w.heap.size+1+1+1+1)) u15 u→ArrAt u (w.heap.size+1) .u8 22 32 P):=Hid.mk (fun u hu=>g1.tou hu (by omega));have HG2:Hid (∀u,Touch (fun x=>x=(w.heap.size+1+1+1+1)) u15 u→ArrAt u (w.heap.size+1+1) .u8 22 32 E):=Hid.mk (fun u hu=>g2.tou hu (by omega));have hms:(⟨#[1,0,0,0]⟩++Bx ix).size=8:=by rw[ByteArray.size_append,D0];rfl
 have HL1:Hid ((⟨#[1,0,0,0]⟩:ByteArray).size+(Bx ix).size≤9223372036854775807):=Hid.mk (by rw[D0];decide);have HL2:Hid ((⟨#[1,0,0,0]⟩++Bx ix).size+e.size≤9223372036854775807):=Hid.mk (by omega);have HL3:Hid ((⟨#[1,0,0,0]⟩++Bx ix++e).size+Za.size≤9223372036854775807):=Hid.mk (by rw[ByteArray.size_append];omega);have HL4:Hid ((⟨#[1,0,0,0]⟩++Bx ix++e++Za).size+Zb.size≤9223372036854775807):=Hid.mk (by rw[ByteArray.size_append,ByteArray.size_append];omega);clear rL gs7 hms;refine Ai (Touch (fun x=>x=(w.heap.size+1+1+1+1)) u15) u15.heap.size
   [((w.heap.size+1+1+1+1),once (SC 162 Bk) 31 22 (SC 162 (Cl H3 (M 0) E (fun _=>0) P ix 0)))]
   [kv (.int .u32 ix),kv (.string (Bx ix)),kv (.string (⟨#[1,0,0,0]⟩++Bx ix)),kv (.string e),kv (.string (⟨#[1,0,0,0]⟩++Bx ix++e)),kv (.string Za),kv (.string (⟨#[1,0,0,0]⟩++Bx ix++e++Za)),kv (.string Zb),kv (.string (⟨#[1,0,0,0]⟩++Bx ix++e++Za++Zb)),kv (.pointer (some ⟨b,0,none⟩)),kv (.pointer (some ⟨b,0,none⟩)),kv (.pointer (some ⟨b,0,none⟩)),kv (.agg (WA .u8 32 H3)),kv (.pointer (some ⟨b,0,none⟩)),kv (.pointer (some ⟨b,0,none⟩)),kv (.pointer (some ⟨b,32,none⟩)),kv (.agg (WA .u8 32 (M 0))),kv (.agg (WA .u8 32 E)),kv (.agg (WA .u8 32 P)),kv (.int .u32 ix),kv (.agg (SC 162 (Cl H3 (M 0) E (fun _=>0) P ix 0))),kv (.string (⟨#[1,0,0,0]⟩++Bx ix++e++Za++Zb)),.val fun _=>True,kv (.int .i64 0)]
   [.none,.none,.none,.none,.none,.none,.none,.none,.none,.none,.none,.none,.none,.none,.none,.none,.none,.none,.none,.none,.none,.none,.base 0 1]
   [some 72,some 73,some 74,some 75,some 76,some 77,some 78,some 79,some 80,some 81,some 82,some 83,some 84,some 85,some 86,some 87,some 88,some 89,some 90,some 91,some 92,some 10,none,some 12]
   [(4,.int .u32 ix),(14,.string e),(18,.string Za),(19,.string Zb),(13,.pointer (some ⟨b,0,none⟩)),(7,.pointer (some ⟨(w.heap.size+1+1),0,none⟩)),(6,.pointer (some ⟨(w.heap.size+1),0,none⟩)),(11,.pointer (some ⟨(w.heap.size+1+1+1+1),0,none⟩))]
   [[],[.slot 0],[.slot 1],[],[.slot 2,.slot 3],[],[.slot 4,.slot 5],[],[.slot 6,.slot 7],[],[.slot 9],[.slot 10],[.slot 11],[],[.slot 13],[.slot 14],[.slot 15],[],[],[],[.slot 12,.slot 16,.slot 17,.slot 18,.slot 19],[.slot 8],[.slot 20,.base 0 0],[]]
   [.base 0 1,.slot 21,.slot 23] [72,73,74,75,76,77,78,79,80,81,82,83,84,85,86,87,88,89,90,91,92,10,12]
   rfl (by kernel_rfl) ⟨rfl,rfl,rfl,rfl,rfl,rfl,rfl,rfl,trivial⟩ (DQ (w.heap.size+1+1+1+1) (Below.refl _ u15).drew) (Acg _) ⟨⟨gH.lt,Al gH⟩,trivial⟩ ⟨trivial,trivial⟩ Fj
   ⟨
    sL fun f _=>sV (Ab rfl f.1),
    (fun _ _ ww _ _ _ _ kn=>.inl ⟨trivial,fun K hK=>AH QK rfl (BI kn.1) (Uk ix ww HIX.out) (fun w' hb=>hK _ _ ⟨Ac hb,rfl⟩)⟩),
    sL fun _ k=>sV (Be (s:=⟨#[1,0,0,0]⟩) rfl rfl k.1 HL1.out),
    sL fun f _=>sV (Ab rfl f.2.1),
    sL fun _ k=>sV (Be rfl k.1 k.2.1 HL2.out),
    sL fun f _=>sV (Ab rfl f.2.2.1),
    sL fun _ k=>sV (Be rfl k.1 k.2.1 HL3.out),
    sL fun f _=>sV (Ab rfl f.2.2.2.1),
    sL fun _ k=>sV (Be rfl k.1 k.2.1 HL4.out),
    sL fun f _=>sV (Ab rfl f.2.2.2.2.1),
    sL fun _ k=>sV (AO rfl k.1),
    sL fun _ k=>sV (IJ rfl k.1),
    (fun _ _ ww _ hS _ _ kn=>sV (Ao rfl Af kn.1 (HG.out ww hS).h)),
    sL fun f _=>sV (Ab rfl f.2.2.2.2.1),
    sL fun _ k=>sV (AO rfl k.1),
    sL fun _ k=>sV (Py rfl k.1),
    (fun _ _ ww _ hS _ _ kn=>sV (Ao rfl Af kn.1 (HG.out ww hS).c)),
    (fun _ _ ww _ hS _ fr _=>sV (AA rfl Af (HG2.out ww hS) fr.2.2.2.2.2.1)),
    (fun _ _ ww _ hS _ fr _=>sV (AA rfl Af (HG1.out ww hS) fr.2.2.2.2.2.2.1)),
    sL fun f _=>sV (Ab rfl f.1),
    sL fun _ k=>sV (Nc rfl k.1 k.2.1 k.2.2.1 k.2.2.2.1 k.2.2.2.2.1),
    sL fun _ k=>sV (Av rfl k.1),
    sL fun f k=>.inl ⟨trivial,fun K hK=>CH rfl AV (Bu _ _ _ _ _ _ _) f.2.2.2.2.2.2.2.1 k.1 (Ak k.2.1) (fun w2 hg ho=>hK _ _ ⟨⟨Ag ho,Al hg⟩,trivial⟩)⟩,
    sL fun _ _=>sV (Av (v:=.int .i64 0) rfl rfl),
    trivial⟩ ?_
 intro vs own u16 hT1 hsz kn inj;clear inj hsz;have gH6:SAt u16 (w.heap.size+1+1+1+1) 31 162 (Cl H3 (M 0) E (fun _=>0) P ix 0):=Ak kn.1;have e10:vs 10=_:=kn.2.1;have e12:vs 12=_:=kn.2.2.1;clear kn HG HG1 HG2;replace hB:=AU hB hT1 (by omega) (Acg _);simp only[Am,Act.put,Aci,Acj,Ach,e10,e12];go_wp2_with fail;refine bodyPost_ret (v:=.tuple #[.string (⟨#[1,0,0,0]⟩++Bx ix++e++Za++Zb),.agg (SC 162 (Cl H3 (M 0) E (fun _=>0) P ix 0)),.int .i64 0]) (IZ results10 AV gH6 (by rfl) (by rfl) (by rfl)) rfl ⟨?_,hB⟩;rw[←hRR];unfold Fr;rw[if_pos ⟨hz1,hz2⟩];simp only[Xm,bgB,Zp,Um,bgA,Zo,hee,hC1e,hH1e,hs1e,hLe,hZa,hH2e,hs2e,hMe,hZb,hH3e]
theorem JI(t:Nat→Int)(n:Nat):Byts n (Im t):=C6 _ _ n
theorem QL(O P E T:Nat→Int)(ix:Int)(w:World)(hO:Byts 32 O)(hP:Byts 32 P)(hE:Byts 32 E)(hT:Byts 12 T)(hix:W32 ix):Calls prog 10 #[.agg (WA .u8 32 O),.agg (WA .u8 32 P),.agg (WA .u8 32 E),.agg (WA .u8 12 T),.int .u32 ix] w fun e w'=>e=.returned (Fr O P E T (Im P) F1 ix)∧Below w.heap.size w w':=
 Pz O P E T (Im P) F1 ix w hO hP hE hT hix (GF 32) (JI P 32) (fun u=>GG P u hP)
def Ja(s m:Nat→Int):Nat→Int:=
 Eb (Eb (Eb (Eb (Eb (Eb (Eb (Eb (s) 0 4 8 12 (m 0) (m 1)) 1 5 9 13 (m 2) (m 3)) 2 6 10 14 (m 4) (m 5)) 3 7 11 15 (m 6) (m 7)) 0 5 10 15 (m 8) (m 9)) 1 6 11 12 (m 10) (m 11)) 2 7 8 13 (m 12) (m 13)) 3 4 9 14 (m 14) (m 15)
theorem isW:Da 238 16:=⟨_,_,underlying238,by kernel_rfl⟩
theorem LQ(m:Nat→Int)(k:Nat)(v:Nat→Int):Kr m k (IA m k v 4) 4=Ja v (fun j=>m (ord k j)):=by
 have e:Kr m k (IA m k v 4) 4=Ht (Ht (Ht (Ht (Ht (Ht (Ht (Ht (v) 0 4 8 12 (m (ord k 0)) (m (ord k 1))) 1 5 9 13 (m (ord k 2)) (m (ord k 3))) 2 6 10 14 (m (ord k 4)) (m (ord k 5))) 3 7 11 15 (m (ord k 6)) (m (ord k 7))) 0 5 10 15 (m (ord k 8)) (m (ord k 9))) 1 6 11 12 (m (ord k 10)) (m (ord k 11))) 2 7 8 13 (m (ord k 12)) (m (ord k 13))) 3 4 9 14 (m (ord k 14)) (m (ord k 15)):=rfl;rw[e]
 simp only[Fe _ _ _ (show (0:Nat)≠4 by decide) (show (0:Nat)≠8 by decide) (show (0:Nat)≠12 by decide) (show (4:Nat)≠8 by decide) (show (4:Nat)≠12 by decide) (show (8:Nat)≠12 by decide),
  Fe _ _ _ (show (1:Nat)≠5 by decide) (show (1:Nat)≠9 by decide) (show (1:Nat)≠13 by decide) (show (5:Nat)≠9 by decide) (show (5:Nat)≠13 by decide) (show (9:Nat)≠13 by decide),
  Fe _ _ _ (show (2:Nat)≠6 by decide) (show (2:Nat)≠10 by decide) (show (2:Nat)≠14 by decide) (show (6:Nat)≠10 by decide) (show (6:Nat)≠14 by decide) (show (10:Nat)≠14 by decide),
  Fe _ _ _ (show (3:Nat)≠7 by decide) (show (3:Nat)≠11 by decide) (show (3:Nat)≠15 by decide) (show (7:Nat)≠11 by decide) (show (7:Nat)≠15 by decide) (show (11:Nat)≠15 by decide),
  Fe _ _ _ (show (0:Nat)≠5 by decide) (show (0:Nat)≠10 by decide) (show (0:Nat)≠15 by decide) (show (5:Nat)≠10 by decide) (show (5:Nat)≠15 by decide) (show (10:Nat)≠15 by decide),
  Fe _ _ _ (show (1:Nat)≠6 by decide) (show (1:Nat)≠11 by decide) (show (1:Nat)≠12 by decide) (show (6:Nat)≠11 by decide) (show (6:Nat)≠12 by decide) (show (11:Nat)≠12 by decide),
  Fe _ _ _ (show (2:Nat)≠7 by decide) (show (2:Nat)≠8 by decide) (show (2:Nat)≠13 by decide) (show (7:Nat)≠8 by decide) (show (7:Nat)≠13 by decide) (show (8:Nat)≠13 by decide),
  Fe _ _ _ (show (3:Nat)≠4 by decide) (show (3:Nat)≠9 by decide) (show (3:Nat)≠14 by decide) (show (4:Nat)≠9 by decide) (show (4:Nat)≠14 by decide) (show (9:Nat)≠14 by decide)]
 rfl
theorem QM{s m:Nat→Int}(h:∀i,i<16→W32 (s i)):∀i,i<16→W32 (Ja s m i):=Dn (Dn (Dn (Dn (Dn (Dn (Dn (Dn (h) (by decide) (by decide)) (by decide) (by decide)) (by decide) (by decide)) (by decide) (by decide)) (by decide) (by decide)) (by decide) (by decide)) (by decide) (by decide)) (by decide) (by decide)
theorem Nf(s0 m:Nat→Int)(w:World)(W0:∀i,i<16→W32 (s0 i)):Calls prog 214 #[.agg (WA .u32 16 s0),.agg (WA .u32 16 m)] w fun e w'=>e=.returned (.agg (WA .u32 16 (Ja s0 m)))∧Below w.heap.size w w':=by
 have g:ArrAt (((w.alloc (.cells (WA .u32 16 s0) 238)).alloc (.cells (WA .u32 16 m) 238)).alloc (.cells (WA .u32 16 fun _=>0) 238)) w.heap.size .u32 238 16 s0:=A6 w _ _ _;have gm:ArrAt (((w.alloc (.cells (WA .u32 16 s0) 238)).alloc (.cells (WA .u32 16 m) 238)).alloc (.cells (WA .u32 16 fun _=>0) 238)) (w.heap.size+1) .u32 238 16 m:=AB w _ _ _;have g1:ArrAt (((w.alloc (.cells (WA .u32 16 s0) 238)).alloc (.cells (WA .u32 16 m) 238)).alloc (.cells (WA .u32 16 fun _=>0) 238)) (w.heap.size+1+1) .u32 238 16 (fun _=>0):=AK w _ _ _;have hB:Below w.heap.size w (((w.alloc (.cells (WA .u32 16 s0) 238)).alloc (.cells (WA .u32 16 m) 238)).alloc (.cells (WA .u32 16 fun _=>0) 238)):=(((Below.refl _ w).alloc (by simp) _).alloc (by simp) _).alloc (by simp;omega) _;obtain⟨z,hz⟩:∃z,Ja s0 m=z:=⟨_,rfl⟩;rw[hz];have HN:=Hid.mk hz;clear hz;unfold Ja at HN;go_enter func214,ntmps214
 go_wp2_with (first|(refine BB g (by rfl) (by decide) ?_)|(refine BB gm (by rfl) (by decide) ?_))
 refine(D4 (s0 0) (s0 4) (s0 8) (s0 12) (m 0) (m 1) _ (W0 4 (by decide)) (W0 12 (by decide))).mono ?_;rintro e vq ⟨rfl,rfl⟩
 go_wp2_with (first|(refine Bg (i:=12) g (by rfl) (by rfl) (by decide) ?_;clear g;intro v2 g o2;replace gm:=gm.only o2 (by omega);replace g1:=g1.only o2 (by omega);replace hB:=hB.trans (o2.below (Acg _));clear o2;refine Hid.out ?_)|(refine Bg g (by rfl) (by rfl) (by decide) ?_;clear g;intro v2 g o2;replace gm:=gm.only o2 (by omega);replace g1:=g1.only o2 (by omega);replace hB:=hB.trans (o2.below (Acg _));clear o2))
 replace g:ArrAt v2 w.heap.size .u32 238 16 (Eb s0 0 4 8 12 (m 0) (m 1)):=g;have W1:=Dn (a:=0) (b:=4) (c:=8) (d:=12) (x:=(m 0)) (y:=(m 1)) W0 (by decide) (by decide);generalize Eb s0 0 4 8 12 (m 0) (m 1)=s1 at *;clear W0;refine Hid.mk ?_
 go_wp2_with (first|(refine BB g (by rfl) (by decide) ?_)|(refine BB gm (by rfl) (by decide) ?_))
 refine(D4 (s1 1) (s1 5) (s1 9) (s1 13) (m 2) (m 3) _ (W1 5 (by decide)) (W1 13 (by decide))).mono ?_;rintro e vq ⟨rfl,rfl⟩
 go_wp2_with (first|(refine Bg (i:=13) g (by rfl) (by rfl) (by decide) ?_;clear g;intro v2 g o2;replace gm:=gm.only o2 (by omega);replace g1:=g1.only o2 (by omega);replace hB:=hB.trans (o2.below (Acg _));clear o2;refine Hid.out ?_)|(refine Bg g (by rfl) (by rfl) (by decide) ?_;clear g;intro v2 g o2;replace gm:=gm.only o2 (by omega);replace g1:=g1.only o2 (by omega);replace hB:=hB.trans (o2.below (Acg _));clear o2))
 replace g:ArrAt v2 w.heap.size .u32 238 16 (Eb s1 1 5 9 13 (m 2) (m 3)):=g;have W2:=Dn (a:=1) (b:=5) (c:=9) (d:=13) (x:=(m 2)) (y:=(m 3)) W1 (by decide) (by decide);generalize Eb s1 1 5 9 13 (m 2) (m 3)=s2 at *;clear W1;refine Hid.mk ?_
 go_wp2_with (first|(refine BB g (by rfl) (by decide) ?_)|(refine BB gm (by rfl) (by decide) ?_))
 refine(D4 (s2 2) (s2 6) (s2 10) (s2 14) (m 4) (m 5) _ (W2 6 (by decide)) (W2 14 (by decide))).mono ?_;rintro e vq ⟨rfl,rfl⟩
 go_wp2_with (first|(refine Bg (i:=14) g (by rfl) (by rfl) (by decide) ?_;clear g;intro v2 g o2;replace gm:=gm.only o2 (by omega);replace g1:=g1.only o2 (by omega);replace hB:=hB.trans (o2.below (Acg _));clear o2;refine Hid.out ?_)|(refine Bg g (by rfl) (by rfl) (by decide) ?_;clear g;intro v2 g o2;replace gm:=gm.only o2 (by omega);replace g1:=g1.only o2 (by omega);replace hB:=hB.trans (o2.below (Acg _));clear o2))
 replace g:ArrAt v2 w.heap.size .u32 238 16 (Eb s2 2 6 10 14 (m 4) (m 5)):=g;have W3:=Dn (a:=2) (b:=6) (c:=10) (d:=14) (x:=(m 4)) (y:=(m 5)) W2 (by decide) (by decide);generalize Eb s2 2 6 10 14 (m 4) (m 5)=s3 at *;clear W2;refine Hid.mk ?_
 go_wp2_with (first|(refine BB g (by rfl) (by decide) ?_)|(refine BB gm (by rfl) (by decide) ?_))
 refine(D4 (s3 3) (s3 7) (s3 11) (s3 15) (m 6) (m 7) _ (W3 7 (by decide)) (W3 15 (by decide))).mono ?_;rintro e vq ⟨rfl,rfl⟩
 go_wp2_with (first|(refine Bg (i:=15) g (by rfl) (by rfl) (by decide) ?_;clear g;intro v2 g o2;replace gm:=gm.only o2 (by omega);replace g1:=g1.only o2 (by omega);replace hB:=hB.trans (o2.below (Acg _));clear o2;refine Hid.out ?_)|(refine Bg g (by rfl) (by rfl) (by decide) ?_;clear g;intro v2 g o2;replace gm:=gm.only o2 (by omega);replace g1:=g1.only o2 (by omega);replace hB:=hB.trans (o2.below (Acg _));clear o2))
 replace g:ArrAt v2 w.heap.size .u32 238 16 (Eb s3 3 7 11 15 (m 6) (m 7)):=g;have W4:=Dn (a:=3) (b:=7) (c:=11) (d:=15) (x:=(m 6)) (y:=(m 7)) W3 (by decide) (by decide);generalize Eb s3 3 7 11 15 (m 6) (m 7)=s4 at *;clear W3;refine Hid.mk ?_
 go_wp2_with (first|(refine BB g (by rfl) (by decide) ?_)|(refine BB gm (by rfl) (by decide) ?_))
 refine(D4 (s4 0) (s4 5) (s4 10) (s4 15) (m 8) (m 9) _ (W4 5 (by decide)) (W4 15 (by decide))).mono ?_;rintro e vq ⟨rfl,rfl⟩
 go_wp2_with (first|(refine Bg (i:=15) g (by rfl) (by rfl) (by decide) ?_;clear g;intro v2 g o2;replace gm:=gm.only o2 (by omega);replace g1:=g1.only o2 (by omega);replace hB:=hB.trans (o2.below (Acg _));clear o2;refine Hid.out ?_)|(refine Bg g (by rfl) (by rfl) (by decide) ?_;clear g;intro v2 g o2;replace gm:=gm.only o2 (by omega);replace g1:=g1.only o2 (by omega);replace hB:=hB.trans (o2.below (Acg _));clear o2))
 replace g:ArrAt v2 w.heap.size .u32 238 16 (Eb s4 0 5 10 15 (m 8) (m 9)):=g;have W5:=Dn (a:=0) (b:=5) (c:=10) (d:=15) (x:=(m 8)) (y:=(m 9)) W4 (by decide) (by decide);generalize Eb s4 0 5 10 15 (m 8) (m 9)=s5 at *;clear W4;refine Hid.mk ?_
 go_wp2_with (first|(refine BB g (by rfl) (by decide) ?_)|(refine BB gm (by rfl) (by decide) ?_))
 refine(D4 (s5 1) (s5 6) (s5 11) (s5 12) (m 10) (m 11) _ (W5 6 (by decide)) (W5 12 (by decide))).mono ?_;rintro e vq ⟨rfl,rfl⟩
 go_wp2_with (first|(refine Bg (i:=12) g (by rfl) (by rfl) (by decide) ?_;clear g;intro v2 g o2;replace gm:=gm.only o2 (by omega);replace g1:=g1.only o2 (by omega);replace hB:=hB.trans (o2.below (Acg _));clear o2;refine Hid.out ?_)|(refine Bg g (by rfl) (by rfl) (by decide) ?_;clear g;intro v2 g o2;replace gm:=gm.only o2 (by omega);replace g1:=g1.only o2 (by omega);replace hB:=hB.trans (o2.below (Acg _));clear o2))
 replace g:ArrAt v2 w.heap.size .u32 238 16 (Eb s5 1 6 11 12 (m 10) (m 11)):=g;have W6:=Dn (a:=1) (b:=6) (c:=11) (d:=12) (x:=(m 10)) (y:=(m 11)) W5 (by decide) (by decide);generalize Eb s5 1 6 11 12 (m 10) (m 11)=s6 at *;clear W5;refine Hid.mk ?_
 go_wp2_with (first|(refine BB g (by rfl) (by decide) ?_)|(refine BB gm (by rfl) (by decide) ?_))
 refine(D4 (s6 2) (s6 7) (s6 8) (s6 13) (m 12) (m 13) _ (W6 7 (by decide)) (W6 13 (by decide))).mono ?_;rintro e vq ⟨rfl,rfl⟩
 go_wp2_with (first|(refine Bg (i:=13) g (by rfl) (by rfl) (by decide) ?_;clear g;intro v2 g o2;replace gm:=gm.only o2 (by omega);replace g1:=g1.only o2 (by omega);replace hB:=hB.trans (o2.below (Acg _));clear o2;refine Hid.out ?_)|(refine Bg g (by rfl) (by rfl) (by decide) ?_;clear g;intro v2 g o2;replace gm:=gm.only o2 (by omega);replace g1:=g1.only o2 (by omega);replace hB:=hB.trans (o2.below (Acg _));clear o2))
 replace g:ArrAt v2 w.heap.size .u32 238 16 (Eb s6 2 7 8 13 (m 12) (m 13)):=g;have W7:=Dn (a:=2) (b:=7) (c:=8) (d:=13) (x:=(m 12)) (y:=(m 13)) W6 (by decide) (by decide);generalize Eb s6 2 7 8 13 (m 12) (m 13)=s7 at *;clear W6;refine Hid.mk ?_
 go_wp2_with (first|(refine BB g (by rfl) (by decide) ?_)|(refine BB gm (by rfl) (by decide) ?_))
 refine(D4 (s7 3) (s7 4) (s7 9) (s7 14) (m 14) (m 15) _ (W7 4 (by decide)) (W7 14 (by decide))).mono ?_;rintro e vq ⟨rfl,rfl⟩
 go_wp2_with (first|(refine Bg (i:=14) g (by rfl) (by rfl) (by decide) ?_;clear g;intro v2 g o2;replace gm:=gm.only o2 (by omega);replace g1:=g1.only o2 (by omega);replace hB:=hB.trans (o2.below (Acg _));clear o2;refine Hid.out ?_)|(refine Bg g (by rfl) (by rfl) (by decide) ?_;clear g;intro v2 g o2;replace gm:=gm.only o2 (by omega);replace g1:=g1.only o2 (by omega);replace hB:=hB.trans (o2.below (Acg _));clear o2))
 replace g:ArrAt v2 w.heap.size .u32 238 16 (Eb s7 3 4 9 14 (m 14) (m 15)):=g;have W8:=Dn (a:=3) (b:=4) (c:=9) (d:=14) (x:=(m 14)) (y:=(m 15)) W7 (by decide) (by decide);rw[HN.out] at g;refine Hid.mk ?_
 go_wp2_with (first|(refine Aq isW g (by rfl) ?_)|(refine A1 isW g1 (by rfl) (by rfl) ?_;intro v4 g4 o4))
 exact bodyPost_ret (v:=.agg (WA .u32 16 z)) (AE rfl isW g4 rfl) rfl ⟨rfl,hB.trans (o4.below (by omega))⟩
def prt(f:Nat→Int)(n i:Nat):Int:=if i<n then f i else 0
theorem Jb(f:Nat→Int)(n:Nat):upd (prt f n) n (f n)=prt f (n+1):=by
 funext i
 unfold upd prt
 by_cases e:i=n
 ·subst e;simp
 ·rw[if_neg e]
  by_cases h:i<n
  ·rw[if_pos h,if_pos (by omega)]
  ·rw[if_neg h,if_neg (by omega)]
theorem Jc(f:Nat→Int):prt f 0=fun _=>0:=by
 funext i
 unfold prt;rw[if_neg (by omega)]
theorem Jd{f:Nat→Int}{n:Nat}:∀i,i<n→prt f n i=f i:=fun i hi=>by unfold prt;rw[if_pos hi]
theorem Un:Da 238 16:=⟨_,_,underlying238,by kernel_rfl⟩
theorem Kf(s:Nat→Int)(k:Nat)(w:World)(hT:Tabs w)(hk:k<10):Calls prog 215 #[.agg (WA .u32 16 s),.int .i64 (k:Int)] w fun e w'=>e=.returned (.agg (WA .u32 16 fun j=>s (ord k j)))∧Below w.heap.size w w':=by
 have g0:ArrAt (((w.alloc (.cells (WA .u32 16 s) 238)).alloc (.cells (WA .u32 16 fun _=>0) 238)).alloc (.cells (WA .u32 16 fun _=>0) 238)) w.heap.size .u32 238 16 s:=A6 w _ _ _;have g1:ArrAt (((w.alloc (.cells (WA .u32 16 s) 238)).alloc (.cells (WA .u32 16 fun _=>0) 238)).alloc (.cells (WA .u32 16 fun _=>0) 238)) (w.heap.size+1) .u32 238 16 (fun _=>0):=AB w _ _ _;have g2:ArrAt (((w.alloc (.cells (WA .u32 16 s) 238)).alloc (.cells (WA .u32 16 fun _=>0) 238)).alloc (.cells (WA .u32 16 fun _=>0) 238)) (w.heap.size+1+1) .u32 238 16 (fun _=>0):=AK w _ _ _;have hB:Below w.heap.size w (((w.alloc (.cells (WA .u32 16 s) 238)).alloc (.cells (WA .u32 16 fun _=>0) 238)).alloc (.cells (WA .u32 16 fun _=>0) 238)):=(((Below.refl _ w).alloc (by simp) _).alloc (by simp) _).alloc (by simp;omega) _;have hTw:=Hid.mk hT;have h2:=hT.two;go_enter func215,ntmps215;go_wp2_with fail
 go_loopg [7] 16 (fun m i v=>∃j:Nat,Hid (m+j=16)∧i=.int .i64 j∧ArrAt v w.heap.size .u32 238 16 s∧ArrAt v (w.heap.size+1) .u32 238 16 (fun _=>0)∧ArrAt v (w.heap.size+1+1) .u32 238 16 (prt (fun j=>s (ord k j)) j)∧Below w.heap.size w v)
 case atStart=>exact⟨0,Hid.mk rfl,rfl,g0,g1,by rw[Jc];exact g2,hB⟩
 case round =>
  clear g0 g1 g2 hB;obtain⟨j,HJ,rfl,g0,g1,g2,hB⟩:=hrel;have hj16:j≤16:=by have:=HJ.out;omega
  by_cases hlt:j<16
  ·have co:=(hTw.out.below hB h2).ord k hk j hlt
   have hol:=FK k hk j hlt;unfold ordI at co;have HN:=Hid.mk (Jb (fun j=>s (ord k j)) j);have cs:=g0.cell (ord k j) hol;have c2:=g2.cell j hlt;have f2:=g2.free j;generalize ord k j=o at *;go_wp2_with fail
   go_roundg (16-(j+1))
   case rel=>exact⟨j+1,Hid.mk (by omega),by go_num,g0.other _ (by omega),g1.other _ (by omega),by rw[←HN.out];exact g2.set j _ hlt,Below.setCell hB (by simp;omega) _⟩
   case measure=>have:=HJ.out;omega
  ·have hj2:j=16:=by omega
   subst hj2;clear hlt hj16 HJ;replace g2:=g2.congr (s':=fun j=>s (ord k j)) Jd
   go_wp2_with (first|(refine Aq Un g2 (by rfl) ?_)|(refine A1 Un g1 (by rfl) (by rfl) ?_;intro v4 g4 o4))
   exact bodyPost_ret (v:=.agg (WA .u32 16 fun j=>s (ord k j))) (AE rfl Un g4 rfl) rfl ⟨rfl,hB.trans (o4.below (by omega))⟩
def pwd(s:Nat→Int)(i:Nat):Nat→Int
 | 0=>0
 | 1=>s (4*i)
 | 2=>s (4*i)+s (4*i+1)*256
 | 3=>s (4*i)+s (4*i+1)*256+s (4*i+2)*65536
 | _=>s (4*i)+s (4*i+1)*256+s (4*i+2)*65536+s (4*i+3)*16777216
theorem Xn(s:Nat→Int)(i:Nat)(x:Int)(h:s i=x):upd s i x=s:=by
 funext j
 unfold upd
 split
 ·subst_vars;rfl
 ·rfl
theorem Xo{x:Int}(h:0≤x∧x<256):bits .or .u32 0 x=x:=by
 have:=EF 0 x 0 1 rfl (by omega) (by omega) (by omega) h.1 (by omega)
 simpa using this
theorem Kg(s:Nat→Int)(w:World)(hs:Byts 64 s):Calls prog 213 #[.agg (WA .u8 64 s)] w fun e w'=>e=.returned (.agg (WA .u32 16 (bwd s)))∧Below w.heap.size w w':=by
 have g0:ArrAt (((w.alloc (.cells (WA .u8 64 s) 183)).alloc (.cells (WA .u32 16 fun _=>0) 238)).alloc (.cells (WA .u32 16 fun _=>0) 238)) w.heap.size .u8 183 64 s:=A6 w _ _ _;have g1:ArrAt (((w.alloc (.cells (WA .u8 64 s) 183)).alloc (.cells (WA .u32 16 fun _=>0) 238)).alloc (.cells (WA .u32 16 fun _=>0) 238)) (w.heap.size+1) .u32 238 16 (fun _=>0):=AB w _ _ _;have g2:ArrAt (((w.alloc (.cells (WA .u8 64 s) 183)).alloc (.cells (WA .u32 16 fun _=>0) 238)).alloc (.cells (WA .u32 16 fun _=>0) 238)) (w.heap.size+1+1) .u32 238 16 (fun _=>0):=AK w _ _ _;have hB:Below w.heap.size w (((w.alloc (.cells (WA .u8 64 s) 183)).alloc (.cells (WA .u32 16 fun _=>0) 238)).alloc (.cells (WA .u32 16 fun _=>0) 238)):=(((Below.refl _ w).alloc (by simp) _).alloc (by simp) _).alloc (by simp;omega) _;go_enter func213,ntmps213;go_wp2_with fail
 go_loopg [6] 16 (fun m i v=>∃k:Nat,Hid (m+k=16)∧i=.int .i64 k∧ArrAt v w.heap.size .u8 183 64 s∧ArrAt v (w.heap.size+1) .u32 238 16 (fun _=>0)∧ArrAt v (w.heap.size+1+1) .u32 238 16 (prt (bwd s) k)∧Below w.heap.size w v)
 case atStart=>exact⟨0,Hid.mk rfl,rfl,g0,g1,by rw[Jc];exact g2,hB⟩
 case round =>
  clear g0 g1 g2 hB;obtain⟨k,HK,rfl,g0,g1,g2,hB⟩:=hrel;have hk16:k≤16:=by have:=HK.out;omega
  by_cases hlt:k<16
  ·have HN:=Hid.mk (Jb (bwd s) k)
   have hd:decide ((k:Int)<16)=true:=by simp;omega
   go_wp2_with fail;replace g2:ArrAt wr (w.heap.size+1+1) .u32 238 16 (upd (prt (bwd s) k) k (pwd s k 0)):=by rw[Xn _ _ _ (by show prt (bwd s) k k=0;unfold prt;rw[if_neg (by omega)])];exact g2
   generalize prt (bwd s) k=p at *;generalize wr=wo at *;generalize gk=gz at *;have h0:=hs (4*k) (by omega);have h1:=hs (4*k+1) (by omega);have h2:=hs (4*k+2) (by omega);have h3:=hs (4*k+3) (by omega);have HH:=Hid.mk (And.intro h0 (And.intro h1 (And.intro h2 h3)));clear h0 h1 h2 h3
   go_loopg [9] 4 (fun m i v=>∃j:Nat,Hid (m+j=4)∧i=.int .i64 j∧ArrAt v w.heap.size .u8 183 64 s∧ArrAt v (w.heap.size+1) .u32 238 16 (fun _=>0)∧ArrAt v (w.heap.size+1+1) .u32 238 16 (upd p k (pwd s k j))∧Below w.heap.size w v)
   case atStart=>exact⟨0,Hid.mk rfl,rfl,g0,g1,g2,hB⟩
   case round =>
    clear g0 g1 g2 hB;obtain⟨j,HJ,rfl,g0,g1,g2,hB⟩:=hrel;have hj4:j=0∨j=1∨j=2∨j=3∨j=4:=by have:=HJ.out;omega
    rcases hj4 with rfl | rfl | rfl | rfl | rfl
    ·have e0:bits .or .u32 0 (s (4*k))=s (4*k):=Xo HH.out.1
     have cb:=g0.cell (4*k) (by omega);have cw:=g2.cell k hlt;have fw:=g2.free k;rw[show upd p k (pwd s k 0) k=pwd s k 0 by unfold upd;rw[if_pos rfl]] at cw;unfold pwd at cw;have hb0:=HH.out.1;have g2n:=g2.set k (pwd s k 1) hlt;rw[FE] at g2n;have HG:=Hid.mk (g2n);clear g2n;unfold pwd at HG;go_wp2_with fail
     go_region
     go_wp2_with fail
     go_roundg 3
     case rel=>exact⟨1,Hid.mk rfl,by go_num,g0.other _ (by omega),g1.other _ (by omega),HG.out,(Below.setCell hB (by simp;omega) _).drew⟩
     case measure=>have:=HJ.out;omega
    ·have e0:bits .or .u32 (s (4*k)) (s (4*k+1)*256)=s (4*k)+s (4*k+1)*256:=by obtain⟨h0,h1,h2,h3⟩:=HH.out;exact EF _ _ 8 256 rfl (by omega) (by omega) (by omega) (by omega) (by omega)
     have cb:=g0.cell (4*k+1) (by omega);have cw:=g2.cell k hlt;have fw:=g2.free k;rw[show upd p k (pwd s k 1) k=pwd s k 1 by unfold upd;rw[if_pos rfl]] at cw;unfold pwd at cw;have hb0:=HH.out.2.1;have g2n:=g2.set k (pwd s k 2) hlt;rw[FE] at g2n;have HG:=Hid.mk (g2n);clear g2n;unfold pwd at HG;go_wp2_with fail
     go_region
     go_wp2_with fail
     go_roundg 2
     case rel=>exact⟨2,Hid.mk rfl,by go_num,g0.other _ (by omega),g1.other _ (by omega),HG.out,(Below.setCell hB (by simp;omega) _).drew⟩
     case measure=>have:=HJ.out;omega
    ·have e0:bits .or .u32 (s (4*k)+s (4*k+1)*256) (s (4*k+2)*65536)=s (4*k)+s (4*k+1)*256+s (4*k+2)*65536:=by obtain⟨h0,h1,h2,h3⟩:=HH.out;exact EF _ _ 16 65536 rfl (by omega) (by omega) (by omega) (by omega) (by omega)
     have cb:=g0.cell (4*k+2) (by omega);have cw:=g2.cell k hlt;have fw:=g2.free k;rw[show upd p k (pwd s k 2) k=pwd s k 2 by unfold upd;rw[if_pos rfl]] at cw;unfold pwd at cw;have hb0:=HH.out.2.2.1;have g2n:=g2.set k (pwd s k 3) hlt;rw[FE] at g2n;have HG:=Hid.mk (g2n);clear g2n;unfold pwd at HG;go_wp2_with fail
     go_region
     go_wp2_with fail
     go_roundg 1
     case rel=>exact⟨3,Hid.mk rfl,by go_num,g0.other _ (by omega),g1.other _ (by omega),HG.out,(Below.setCell hB (by simp;omega) _).drew⟩
     case measure=>have:=HJ.out;omega
    ·have e0:bits .or .u32 (s (4*k)+s (4*k+1)*256+s (4*k+2)*65536) (s (4*k+3)*16777216)=s (4*k)+s (4*k+1)*256+s (4*k+2)*65536+s (4*k+3)*16777216:=by obtain⟨h0,h1,h2,h3⟩:=HH.out;exact EF _ _ 24 16777216 rfl (by omega) (by omega) (by omega) (by omega) (by omega)
     have cb:=g0.cell (4*k+3) (by omega);have cw:=g2.cell k hlt;have fw:=g2.free k;rw[show upd p k (pwd s k 3) k=pwd s k 3 by unfold upd;rw[if_pos rfl]] at cw;unfold pwd at cw;have hb0:=HH.out.2.2.2;have g2n:=g2.set k (pwd s k 4) hlt;rw[FE] at g2n;have HG:=Hid.mk (g2n);clear g2n;unfold pwd at HG;go_wp2_with fail
     go_region
     go_wp2_with fail
     go_roundg 0
     case rel=>exact⟨4,Hid.mk rfl,by go_num,g0.other _ (by omega),g1.other _ (by omega),HG.out,(Below.setCell hB (by simp;omega) _).drew⟩
     case measure=>have:=HJ.out;omega
    ·replace g2:ArrAt wr (w.heap.size+1+1) .u32 238 16 (upd p k (bwd s k)):=by
      have e:pwd s k 4=bwd s k:=by show s (4*k)+s (4*k+1)*256+s (4*k+2)*65536+s (4*k+3)*16777216=_;unfold bwd;omega
      rw[←e];exact g2
     rw[HN.out] at g2;go_wp2_with fail
     go_roundg (16-(k+1))
     case rel=>exact⟨k+1,Hid.mk (by omega),by go_num,g0,g1,g2,hB⟩
     case measure=>have:=HK.out;omega
  ·have hk2:k=16:=by omega
   subst hk2;clear hlt hk16 HK;replace g2:=g2.congr (s':=bwd s) Jd
   go_wp2_with (first|(refine Aq Un g2 (by rfl) ?_)|(refine A1 Un g1 (by rfl) (by rfl) ?_;intro v4 g4 o4))
   exact bodyPost_ret (v:=.agg (WA .u32 16 (bwd s))) (AE rfl Un g4 rfl) rfl ⟨rfl,hB.trans (o4.below (by omega))⟩
theorem Je(args:Array Value)(w:World):(callFunc 215 args).run prog w=.ok (.enter 215 args) w:=by kernel_rfl
theorem LR(args:Array Value)(w:World):(callFunc 214 args).run prog w=.ok (.enter 214 args) w:=by kernel_rfl
theorem Mr:Da 194 8:=⟨_,_,underlying194,by kernel_rfl⟩
theorem Gj:Da 183 64:=⟨_,_,underlying183,by kernel_rfl⟩
theorem LS(x y z:Int):Ap (Ap x y) z=Ap x (Ap y z):=by
 unfold Ap;simp only[AcB,Nat.xor_assoc]
theorem QN{a:Act}{o:Oper}{w:World}{x:Operand}(ho:o.op=.unOp .xor 23 x){n y:Int}(hx:a.eval x=.int .u32 n)(hn:W32 n)(hy:Ap n 4294967295=y):(execOp a.eval o).run prog w=.ok (.value (.int .u32 y)) w:=by
 have e:bits .xor .u32 IntKind.u32.max n=y:=by
  rw[show IntKind.u32.max=4294967295 by decide,←hy,My];exact Cj (by unfold W32;omega) hn
 have h:(Op.unary .xor (.int .u32 n)).run prog w=.ok (.int .u32 (bits .xor .u32 IntKind.u32.max n)) w:=rfl;rw[e] at h;unfold execOp;simp only[ho,hx,Sem.run_bind,h,Result.andThen_ok,Sem.run_pure]
def GM(h:Nat→Int)(i q:Nat):Int:=if q<i then h q else if 8≤q∧q<8+i then bgn (q-8) else 0
theorem QO(h:Nat→Int)(i:Nat)(hi:i<8):upd (upd (GM h i) i (h i)) (8+i) (bgn i)=GM h (i+1):=by
 funext q
 unfold upd GM
 by_cases e1:q=8+i
 ·subst e1;rw[if_pos rfl,if_neg (by omega),if_pos (by omega),Ac0]
 ·rw[if_neg e1]
  by_cases e2:q=i
  ·subst e2;rw[if_pos rfl,if_pos (by omega)]
  ·rw[if_neg e2]
   by_cases e3:q<i
   ·rw[if_pos e3,if_pos (by omega)]
   ·have r1:¬q<i+1:=by omega
    rw[if_neg e3,if_neg r1]
    by_cases e4:8≤q∧q<8+i
    ·have r2:8≤q∧q<8+(i+1):=by omega
     rw[if_pos e4,if_pos r2]
    ·have r2:¬(8≤q∧q<8+(i+1)):=by omega
     rw[if_neg e4,if_neg r2]
theorem QP(h:Nat→Int):GM h 0=fun _=>0:=by
 funext q
 unfold GM;rw[if_neg (by omega),if_neg (by omega)]
def ovr(f h:Nat→Int)(j q:Nat):Int:=if q<j then f q else h q
theorem LT(f h:Nat→Int)(j:Nat):upd (ovr f h j) j (f j)=ovr f h (j+1):=by
 funext q
 unfold upd ovr
 by_cases e:q=j
 ·subst e;rw[if_pos rfl,if_pos (by omega)]
 ·rw[if_neg e]
  by_cases h3:q<j
  ·have r:q<j+1:=by omega
   rw[if_pos h3,if_pos r]
  ·have r:¬q<j+1:=by omega
   rw[if_neg h3,if_neg r]
theorem LU(f h:Nat→Int):ovr f h 0=h:=by
 funext q
 unfold ovr;rw[if_neg (by omega)]
theorem QQ(f h:Nat→Int)(j:Nat):ovr f h j j=h j:=by unfold ovr;rw[if_neg (by omega)]
theorem LV{f h:Nat→Int}{n:Nat}:∀i,i<n→ovr f h n i=f i:=fun i hi=>by unfold ovr;rw[if_pos hi]
theorem P0(h bl:Nat→Int)(t:Int)(last:Bool)(w:World)(hTw:Tabs w)(hh:∀i,i<8→W32 (h i))(hbl:Byts 64 bl)(ht:0≤t∧t<18446744073709551616):Calls prog 197 #[.agg (WA .u32 8 h),.agg (WA .u8 64 bl),.int .u64 t,.bool last] w fun e w'=>e=.returned (.agg (WA .u32 8 (Bh h bl t last)))∧Below w.heap.size w w':=by
 have g0:ArrAt ((((w.alloc (.cells (WA .u32 8 h) 194)).alloc (.cells (WA .u8 64 bl) 183)).alloc (.cells (WA .u32 8 fun _=>0) 194)).alloc (.cells (WA .u32 16 fun _=>0) 238)) w.heap.size .u32 194 8 h:=Iz w _ _ _ _;have g1:ArrAt ((((w.alloc (.cells (WA .u32 8 h) 194)).alloc (.cells (WA .u8 64 bl) 183)).alloc (.cells (WA .u32 8 fun _=>0) 194)).alloc (.cells (WA .u32 16 fun _=>0) 238)) (w.heap.size+1) .u8 183 64 bl:=I0 w _ _ _ _;have g2:ArrAt ((((w.alloc (.cells (WA .u32 8 h) 194)).alloc (.cells (WA .u8 64 bl) 183)).alloc (.cells (WA .u32 8 fun _=>0) 194)).alloc (.cells (WA .u32 16 fun _=>0) 238)) (w.heap.size+1+1) .u32 194 8 (fun _=>0):=I1 w _ _ _ _;have gv:ArrAt ((((w.alloc (.cells (WA .u32 8 h) 194)).alloc (.cells (WA .u8 64 bl) 183)).alloc (.cells (WA .u32 8 fun _=>0) 194)).alloc (.cells (WA .u32 16 fun _=>0) 238)) (w.heap.size+1+1+1) .u32 238 16 (fun _=>0):=GU w _ _ _ _;have hB:Below w.heap.size w ((((w.alloc (.cells (WA .u32 8 h) 194)).alloc (.cells (WA .u8 64 bl) 183)).alloc (.cells (WA .u32 8 fun _=>0) 194)).alloc (.cells (WA .u32 16 fun _=>0) 238)):=((((Below.refl _ w).alloc (by simp) _).alloc (by simp) _).alloc (by simp;omega) _).alloc (by simp;omega) _;have h2:=hTw.two;have HTw:=Hid.mk hTw;clear hTw;go_enter func197,ntmps197;go_wp2_with fail
 go_loopg [14] 8 (fun gm iv v=>∃i:Nat,Hid (gm+i=8)∧iv=.int .i64 (i:Int)∧ArrAt v w.heap.size .u32 194 8 h∧ArrAt v (w.heap.size+1) .u8 183 64 bl∧ArrAt v (w.heap.size+1+1) .u32 194 8 (fun _=>0)∧ArrAt v (w.heap.size+1+1+1) .u32 238 16 (GM h i)∧Below w.heap.size w v)
 case atStart=>exact⟨0,Hid.mk rfl,rfl,g0,g1,g2,by rw[QP];exact gv,hB⟩
 case round =>
  clear g0 g1 g2 gv hB;obtain⟨i,HI,rfl,g0,g1,g2,gv,hB⟩:=hrel;have hi8:i≤8:=by have:=HI.out;omega
  by_cases hil:i<8
  ·have HN:=Hid.mk (QO h i hil)
   have c0:=g0.cell i hil;have cg:=(HTw.out.below hB h2).beg i hil;have cv:=gv.cell i (by omega);have fv:=gv.free i;have cw:=gv.cell (8+i) (by omega);have fw:=gv.free (8+i);have HG:=Hid.mk ((gv.set i (h i) (by omega)).set (8+i) (bgn i) (by omega));rw[HN.out] at HG;generalize bgn i=bi at *;generalize h i=hi at *;go_wp2_with fail
   go_region
   go_wp2_with fail
   go_roundg (8-(i+1))
   case rel=>exact⟨i+1,Hid.mk (by omega),by go_num,(g0.other _ (by omega)).other _ (by omega),(g1.other _ (by omega)).other _ (by omega),(g2.other _ (by omega)).other _ (by omega),HG.out,(Below.setCell (Below.setCell hB (by simp;omega) _) (by simp;omega) _).drew⟩
   case measure=>have:=HI.out;omega
  ·have hi2:i=8:=by omega
   subst hi2;clear hil hi8 HI
   have W0:∀q,q<16→W32 (GM h 8 q):=fun q hq=>by
    unfold GM
    split
    ·exact hh q (by omega)
    ·rw[if_pos (by omega)];exact Gh _
   have HQ0:Hid (∀q,q<16→GM h 8 q=if q<8 then h q else bgn (q-8)):=Hid.mk (fun q hq=>by
    unfold GM
    split
    ·rfl
    ·rw[if_pos (by omega)])
   generalize GM h 8=V0 at *;have HB2:=Hid.mk (Id h V0 t HQ0.out);have T1:W32 (t%4294967296):=by unfold W32;omega
   have T2:W32 (t/4294967296):=by unfold W32;omega
   have T3:t/4294967296%4294967296=t/4294967296:=by omega
   have x12:=Cj (W0 12 (by omega)) T1;have c12:=gv.cell 12 (by omega);have f12:=gv.free 12;have gv1:=gv.set 12 (Ap (V0 12) (t%4294967296)) (by omega);have W1:∀i,i<16→W32 (upd V0 12 (Ap (V0 12) (t%4294967296)) i):=Bd W0 (A9 (W0 12 (by omega)) T1);generalize upd V0 12 (Ap (V0 12) (t%4294967296))=V1 at *;have x13:=Cj (W1 13 (by omega)) T2;have c13:=gv1.cell 13 (by omega);have f13:=gv1.free 13;have gv2:=gv1.set 13 (Ap (V1 13) (t/4294967296)) (by omega);have W2:∀i,i<16→W32 (upd V1 13 (Ap (V1 13) (t/4294967296)) i):=Bd W1 (A9 (W1 13 (by omega)) T2);generalize upd V1 13 (Ap (V1 13) (t/4294967296))=V2 at *;replace gv2:=gv2.congr (s':=Bv h t false) HB2.out;replace W2:∀i,i<16→W32 (Bv h t false i):=fun i hi=>by rw[←HB2.out i hi];exact W2 i hi
   replace g0:=(g0.other (g:=(w.heap.size+1+1+1)) (i:=12) (.int .u32 (Ap (V0 12) (t%4294967296))) (by omega)).other (g:=(w.heap.size+1+1+1)) (i:=13) (.int .u32 (Ap (V1 13) (t/4294967296))) (by omega);replace g1:=(g1.other (g:=(w.heap.size+1+1+1)) (i:=12) (.int .u32 (Ap (V0 12) (t%4294967296))) (by omega)).other (g:=(w.heap.size+1+1+1)) (i:=13) (.int .u32 (Ap (V1 13) (t/4294967296))) (by omega);replace g2:=(g2.other (g:=(w.heap.size+1+1+1)) (i:=12) (.int .u32 (Ap (V0 12) (t%4294967296))) (by omega)).other (g:=(w.heap.size+1+1+1)) (i:=13) (.int .u32 (Ap (V1 13) (t/4294967296))) (by omega);replace hB:=Below.setCell (Below.setCell hB (p:=⟨(w.heap.size+1+1+1),12,none⟩) (by simp;omega) (.int .u32 (Ap (V0 12) (t%4294967296)))) (p:=⟨(w.heap.size+1+1+1),13,none⟩) (by simp;omega) (.int .u32 (Ap (V1 13) (t/4294967296)));generalize Ap (V0 12) (t%4294967296)=y12 at *;generalize Ap (V1 13) (t/4294967296)=y13 at *;clear gv HB2 HQ0 W0 W1 T1 T2 gv1
   cases last with
   | false =>
    have gv:=gv2;clear gv2;have HV:Hid (∀i,i<16→W32 (Bv h t false i)):=Hid.mk W2
    go_wp2_with (refine Aq Gj g1 (by rfl) ?_)
    refine(Kg bl _ hbl).mono ?_;rintro e v4 ⟨rfl,hb4⟩;replace g0:=g0.kept hb4;replace g2:=g2.kept hb4;replace gv:=gv.kept hb4;replace hB:=hB.trans (hb4.mono hB.size);clear hb4 g1;have gn:=fun o (ho:o=Obj.cells (WA .u32 16 fun _=>0) 238 (0,0))=>(by rw[ho];exact heap_alloc_new v4 _:ArrAt (v4.alloc o) v4.heap.size .u32 238 16 (fun _=>0))
    have HBS:=Hid.mk hB.size;have hz:=gv.lt
    go_wp2_with (refine A1 isW (gn _ rfl) (by rfl) (by rfl) ?_;intro v5 gm o5;refine Hid.out ?_)
    replace hB:=(hB.alloc HBS.out _).trans (o5.below HBS.out);replace g0:=(g0.alloc _).only o5 (by omega);replace g2:=(g2.alloc _).only o5 (by omega);replace gv:=(gv.alloc _).only o5 (by omega);clear o5 gn HBS;generalize v4.heap.size=bm at *;have HT5:Hid (Tabs v5):=Hid.mk (HTw.out.below hB h2);refine Hid.mk ?_;go_wp2_with fail
    go_loopg [49] 10 (fun gm iv v=>∃k:Nat,Hid (gm+k=10)∧iv=.int .i64 (k:Int)∧ArrAt v (w.heap.size+1+1+1) .u32 238 16 (CK (bwd bl) (Bv h t false) k)∧Hid (∀i,i<16→W32 (CK (bwd bl) (Bv h t false) k i))∧Touch (fun x=>x=(w.heap.size+1+1+1)) v5 v)
    case atStart=>exact⟨0,Hid.mk rfl,rfl,gv,HV,Touch.refl _ _⟩
    case round =>
     clear gv;obtain⟨k,HK,rfl,gv,HX,hT5⟩:=hrel;have hk10:k≤10:=by have:=HK.out;omega
     by_cases hk:k<10
     ·have HN:Hid (Ja (CK (bwd bl) (Bv h t false) k) (fun j=>bwd bl (ord k j))=CK (bwd bl) (Bv h t false) (k+1)):=Hid.mk (LQ (bwd bl) k _).symm
      generalize CK (bwd bl) (Bv h t false) k=X at *;go_wp2_with fail;refine AJ (fun v=>ArrAt v (w.heap.size+1+1+1) .u32 238 16 X∧Touch (fun x=>x=(w.heap.size+1+1+1)) v5 v) ⟨gv,hT5⟩ ?_;clear gv hT5;rintro v0 ⟨gv,hT5⟩;have HM:Hid (∀u,Touch (fun x=>x=(w.heap.size+1+1+1)) v5 u→ArrAt u bm .u32 238 16 (bwd bl)):=Hid.mk (fun u hu=>gm.touch hu (by omega));have HT:Hid (∀u,Touch (fun x=>x=(w.heap.size+1+1+1)) v5 u→Tabs u):=Hid.mk (fun u hu=>HT5.out.touch hu (by omega));refine Ai (Touch (fun x=>x=(w.heap.size+1+1+1)) v5) v0.heap.size
       [((w.heap.size+1+1+1),once (WA .u32 16 X) 238 5 (WA .u32 16 (Ja X fun j=>bwd bl (ord k j))))]
       [kv (.agg (WA .u32 16 X)),kv (.agg (WA .u32 16 (bwd bl))),kv (.int .i64 ((k:Nat):Int)),kv (.agg (WA .u32 16 fun j=>bwd bl (ord k j))),kv (.agg (WA .u32 16 (Ja X fun j=>bwd bl (ord k j)))),.val fun _=>True]
       [.none,.none,.none,.none,.none,.base 0 1]
       [some 52,some 53,some 54,some 55,some 56,none]
       [(9,.pointer (some ⟨(w.heap.size+1+1+1),0,none⟩)),(11,.pointer (some ⟨bm,0,none⟩)),(12,.int .i64 ((k:Nat):Int))]
       [[.base 0 0],[],[],[.slot 1,.slot 2],[.slot 0,.slot 3],[.slot 4,.base 0 0]]
       [.base 0 1] [52,53,54,55,56]
       rfl (by kernel_rfl) ⟨rfl,rfl,rfl,trivial⟩ (Touch.drew hT5) (Acg _) ⟨⟨gv.lt,Al gv⟩,trivial⟩ ⟨trivial,trivial⟩ (Cb hT5.size)
       ⟨
        sL fun f k=>sV (AA rfl isW (Ak k.1) f.1),
        (fun _ _ ww _ hS _ fr _=>sV (AA rfl isW (HM.out ww hS) fr.2.1)),
        sL fun f _=>sV (Ab rfl f.2.2.1),
        (fun _ _ ww _ hS _ _ kn=>.inl ⟨trivial,fun K hK=>AH Je rfl (CT kn.1 kn.2.1) (Kf (bwd bl) k ww (HT.out ww hS) hk) (fun w' hb=>hK _ _ ⟨Ac hb,rfl⟩)⟩),
        (fun _ _ ww _ _ _ _ kn=>.inl ⟨trivial,fun K hK=>AH LR rfl (CT kn.1 kn.2.1) (Nf X _ ww HX.out) (fun w' hb=>hK _ _ ⟨Ac hb,rfl⟩)⟩),
        sL fun f k=>.inl ⟨trivial,fun K hK=>Bs rfl isW f.1 k.1 (Ak k.2.1) (fun w2 hg ho=>hK _ _ ⟨⟨Ag ho,Al hg⟩,trivial⟩)⟩,
        trivial⟩ ?_
      intro vs own v6 hT6 hs6 kn inj;clear inj hs6;replace gv:ArrAt v6 (w.heap.size+1+1+1) .u32 238 16 (Ja X fun j=>bwd bl (ord k j)):=Ak kn.1;clear kn HM HT hT5;simp only[Am,Act.put,Aci,Acj,Ach];have HW6:=Hid.mk (QM (m:=fun j=>bwd bl (ord k j)) HX.out);rw[HN.out] at gv HW6;go_wp2_with fail
      go_roundg (10-(k+1))
      case rel=>exact⟨k+1,Hid.mk (by omega),by go_num,gv,HW6,hT6⟩
      case measure=>have:=HK.out;omega
     ·have hk2:k=10:=by omega
      subst hk2;have HTF:Hid (∀q,q<8→Bh h bl t false q=Ap (h q) (Ap (CK (bwd bl) (Bv h t false) 10 q) (CK (bwd bl) (Bv h t false) 10 (8+q)))):=Hid.mk (fun q _=>by unfold Bh;rw[LS,Nat.add_comm q 8]);generalize CK (bwd bl) (Bv h t false) 10=vt at *;replace g0:=g0.touch hT5 (by omega);replace g2:=g2.touch hT5 (by omega);replace hB:=AU hB hT5 (by omega) (Acg _);clear hT5 hk hk10 HK gm HT5;go_wp2_with fail;rw[show ((10:Nat):Int)=10 from rfl];generalize wr=wo3 at *
      go_loopg [58] 8 (fun gm iv v=>∃j:Nat,Hid (gm+j=8)∧iv=.int .i64 (j:Int)∧ArrAt v w.heap.size .u32 194 8 (ovr (Bh h bl t false) h j)∧ArrAt v (w.heap.size+1+1) .u32 194 8 (fun _=>0)∧ArrAt v (w.heap.size+1+1+1) .u32 238 16 vt∧Below w.heap.size w v)
      case atStart=>exact⟨0,Hid.mk rfl,rfl,by rw[LU];exact g0,g2,gv,hB⟩
      case round =>
       clear g0 g2 gv hB;obtain⟨j,HJ,rfl,g0,g2,gv,hB⟩:=hrel;have hj8:j≤8:=by have:=HJ.out;omega
       by_cases hj:j<8
       ·have c0:=g0.cell j hj
        have f0:=g0.free j;rw[QQ] at c0;have c1:=gv.cell j (by omega);have c2:=gv.cell (8+j) (by omega);have e1:=Cj (HX.out j (by omega)) (HX.out (8+j) (by omega));have e2:=Cj (hh j hj) (A9 (HX.out j (by omega)) (HX.out (8+j) (by omega)));have HG:=Hid.mk (g0.set j (Bh h bl t false j) hj);rw[LT] at HG;rw[HTF.out j hj] at HG;generalize Ap (vt j) (vt (8+j))=x1 at *;generalize Ap (h j) x1=x2 at *;go_wp2_with fail
        go_region
        go_wp2_with fail
        go_roundg (8-(j+1))
        case rel=>exact⟨j+1,Hid.mk (by omega),by go_num,HG.out,(g2.other _ (by omega)),(gv.other _ (by omega)),(Below.setCell hB (by simp) _).drew⟩
        case measure=>have:=HJ.out;omega
       ·have hj2:j=8:=by omega
        subst hj2;replace g0:=g0.congr (s':=Bh h bl t false) LV;clear hj hj8 HJ HTF
        go_wp2_with (first|(refine Aq Mr g0 (by rfl) ?_)|(refine A1 Mr g2 (by rfl) (by rfl) ?_;intro v9 g9 o9))
        exact bodyPost_ret (v:=.agg (WA .u32 8 (Bh h bl t false))) (AE rfl Mr g9 rfl) rfl ⟨rfl,hB.trans (o9.below (by omega))⟩
   | true =>
    have c14:=gv2.cell 14 (by omega);have f14:=gv2.free 14;have W14:=W2 14 (by omega);obtain⟨y14,E14⟩:∃y,Ap (Bv h t false 14) 4294967295=y:=⟨_,rfl⟩;have gv:=(gv2.set 14 (Ap (Bv h t false 14) 4294967295) (by omega)).congr (s':=Bv h t true) (GZ h _ t (fun _ _=>rfl))
    have W3:∀i,i<16→W32 (Bv h t true i):=fun i hi=>by
     rw[←GZ h _ t (fun _ _=>rfl) i hi];exact Bd W2 (A9 (W2 14 (by omega)) (by unfold W32;omega)) i hi
    replace g0:=g0.other (g:=(w.heap.size+1+1+1)) (i:=14) (.int .u32 (Ap (Bv h t false 14) 4294967295)) (by omega);replace g1:=g1.other (g:=(w.heap.size+1+1+1)) (i:=14) (.int .u32 (Ap (Bv h t false 14) 4294967295)) (by omega);replace g2:=g2.other (g:=(w.heap.size+1+1+1)) (i:=14) (.int .u32 (Ap (Bv h t false 14) 4294967295)) (by omega);replace hB:=Below.setCell hB (p:=⟨(w.heap.size+1+1+1),14,none⟩) (by simp;omega) (.int .u32 (Ap (Bv h t false 14) 4294967295));rw[E14] at gv g0 g1 g2 hB;clear gv2 W2;have HV:Hid (∀i,i<16→W32 (Bv h t true i)):=Hid.mk W3
    go_wp2_with (first|(refine Ae rfl (QN rfl (by rfl) W14 E14) ?_)|(refine Aq Gj g1 (by rfl) ?_))
    refine(Kg bl _ hbl).mono ?_;rintro e v4 ⟨rfl,hb4⟩;replace g0:=g0.kept hb4;replace g2:=g2.kept hb4;replace gv:=gv.kept hb4;replace hB:=hB.trans (hb4.mono hB.size);clear hb4 g1;have gn:=fun o (ho:o=Obj.cells (WA .u32 16 fun _=>0) 238 (0,0))=>(by rw[ho];exact heap_alloc_new v4 _:ArrAt (v4.alloc o) v4.heap.size .u32 238 16 (fun _=>0))
    have HBS:=Hid.mk hB.size;have hz:=gv.lt
    go_wp2_with (refine A1 isW (gn _ rfl) (by rfl) (by rfl) ?_;intro v5 gm o5;refine Hid.out ?_)
    replace hB:=(hB.alloc HBS.out _).trans (o5.below HBS.out);replace g0:=(g0.alloc _).only o5 (by omega);replace g2:=(g2.alloc _).only o5 (by omega);replace gv:=(gv.alloc _).only o5 (by omega);clear o5 gn HBS;generalize v4.heap.size=bm at *;have HT5:Hid (Tabs v5):=Hid.mk (HTw.out.below hB h2);refine Hid.mk ?_;go_wp2_with fail
    go_loopg [49] 10 (fun gm iv v=>∃k:Nat,Hid (gm+k=10)∧iv=.int .i64 (k:Int)∧ArrAt v (w.heap.size+1+1+1) .u32 238 16 (CK (bwd bl) (Bv h t true) k)∧Hid (∀i,i<16→W32 (CK (bwd bl) (Bv h t true) k i))∧Touch (fun x=>x=(w.heap.size+1+1+1)) v5 v)
    case atStart=>exact⟨0,Hid.mk rfl,rfl,gv,HV,Touch.refl _ _⟩
    case round =>
     clear gv;obtain⟨k,HK,rfl,gv,HX,hT5⟩:=hrel;have hk10:k≤10:=by have:=HK.out;omega
     by_cases hk:k<10
     ·have HN:Hid (Ja (CK (bwd bl) (Bv h t true) k) (fun j=>bwd bl (ord k j))=CK (bwd bl) (Bv h t true) (k+1)):=Hid.mk (LQ (bwd bl) k _).symm
      generalize CK (bwd bl) (Bv h t true) k=X at *;go_wp2_with fail;refine AJ (fun v=>ArrAt v (w.heap.size+1+1+1) .u32 238 16 X∧Touch (fun x=>x=(w.heap.size+1+1+1)) v5 v) ⟨gv,hT5⟩ ?_;clear gv hT5;rintro v0 ⟨gv,hT5⟩;have HM:Hid (∀u,Touch (fun x=>x=(w.heap.size+1+1+1)) v5 u→ArrAt u bm .u32 238 16 (bwd bl)):=Hid.mk (fun u hu=>gm.touch hu (by omega));have HT:Hid (∀u,Touch (fun x=>x=(w.heap.size+1+1+1)) v5 u→Tabs u):=Hid.mk (fun u hu=>HT5.out.touch hu (by omega));refine Ai (Touch (fun x=>x=(w.heap.size+1+1+1)) v5) v0.heap.size
       [((w.heap.size+1+1+1),once (WA .u32 16 X) 238 5 (WA .u32 16 (Ja X fun j=>bwd bl (ord k j))))]
       [kv (.agg (WA .u32 16 X)),kv (.agg (WA .u32 16 (bwd bl))),kv (.int .i64 ((k:Nat):Int)),kv (.agg (WA .u32 16 fun j=>bwd bl (ord k j))),kv (.agg (WA .u32 16 (Ja X fun j=>bwd bl (ord k j)))),.val fun _=>True]
       [.none,.none,.none,.none,.none,.base 0 1]
       [some 52,some 53,some 54,some 55,some 56,none]
       [(9,.pointer (some ⟨(w.heap.size+1+1+1),0,none⟩)),(11,.pointer (some ⟨bm,0,none⟩)),(12,.int .i64 ((k:Nat):Int))]
       [[.base 0 0],[],[],[.slot 1,.slot 2],[.slot 0,.slot 3],[.slot 4,.base 0 0]]
       [.base 0 1] [52,53,54,55,56]
       rfl (by kernel_rfl) ⟨rfl,rfl,rfl,trivial⟩ (Touch.drew hT5) (Acg _) ⟨⟨gv.lt,Al gv⟩,trivial⟩ ⟨trivial,trivial⟩ (Cb hT5.size)
       ⟨
        sL fun f k=>sV (AA rfl isW (Ak k.1) f.1),
        (fun _ _ ww _ hS _ fr _=>sV (AA rfl isW (HM.out ww hS) fr.2.1)),
        sL fun f _=>sV (Ab rfl f.2.2.1),
        (fun _ _ ww _ hS _ _ kn=>.inl ⟨trivial,fun K hK=>AH Je rfl (CT kn.1 kn.2.1) (Kf (bwd bl) k ww (HT.out ww hS) hk) (fun w' hb=>hK _ _ ⟨Ac hb,rfl⟩)⟩),
        (fun _ _ ww _ _ _ _ kn=>.inl ⟨trivial,fun K hK=>AH LR rfl (CT kn.1 kn.2.1) (Nf X _ ww HX.out) (fun w' hb=>hK _ _ ⟨Ac hb,rfl⟩)⟩),
        sL fun f k=>.inl ⟨trivial,fun K hK=>Bs rfl isW f.1 k.1 (Ak k.2.1) (fun w2 hg ho=>hK _ _ ⟨⟨Ag ho,Al hg⟩,trivial⟩)⟩,
        trivial⟩ ?_
      intro vs own v6 hT6 hs6 kn inj;clear inj hs6;replace gv:ArrAt v6 (w.heap.size+1+1+1) .u32 238 16 (Ja X fun j=>bwd bl (ord k j)):=Ak kn.1;clear kn HM HT hT5;simp only[Am,Act.put,Aci,Acj,Ach];have HW6:=Hid.mk (QM (m:=fun j=>bwd bl (ord k j)) HX.out);rw[HN.out] at gv HW6;go_wp2_with fail
      go_roundg (10-(k+1))
      case rel=>exact⟨k+1,Hid.mk (by omega),by go_num,gv,HW6,hT6⟩
      case measure=>have:=HK.out;omega
     ·have hk2:k=10:=by omega
      subst hk2;have HTF:Hid (∀q,q<8→Bh h bl t true q=Ap (h q) (Ap (CK (bwd bl) (Bv h t true) 10 q) (CK (bwd bl) (Bv h t true) 10 (8+q)))):=Hid.mk (fun q _=>by unfold Bh;rw[LS,Nat.add_comm q 8]);generalize CK (bwd bl) (Bv h t true) 10=vt at *;replace g0:=g0.touch hT5 (by omega);replace g2:=g2.touch hT5 (by omega);replace hB:=AU hB hT5 (by omega) (Acg _);clear hT5 hk hk10 HK gm HT5;go_wp2_with fail;rw[show ((10:Nat):Int)=10 from rfl];generalize wr=wo3 at *
      go_loopg [58] 8 (fun gm iv v=>∃j:Nat,Hid (gm+j=8)∧iv=.int .i64 (j:Int)∧ArrAt v w.heap.size .u32 194 8 (ovr (Bh h bl t true) h j)∧ArrAt v (w.heap.size+1+1) .u32 194 8 (fun _=>0)∧ArrAt v (w.heap.size+1+1+1) .u32 238 16 vt∧Below w.heap.size w v)
      case atStart=>exact⟨0,Hid.mk rfl,rfl,by rw[LU];exact g0,g2,gv,hB⟩
      case round =>
       clear g0 g2 gv hB;obtain⟨j,HJ,rfl,g0,g2,gv,hB⟩:=hrel;have hj8:j≤8:=by have:=HJ.out;omega
       by_cases hj:j<8
       ·have c0:=g0.cell j hj
        have f0:=g0.free j;rw[QQ] at c0;have c1:=gv.cell j (by omega);have c2:=gv.cell (8+j) (by omega);have e1:=Cj (HX.out j (by omega)) (HX.out (8+j) (by omega));have e2:=Cj (hh j hj) (A9 (HX.out j (by omega)) (HX.out (8+j) (by omega)));have HG:=Hid.mk (g0.set j (Bh h bl t true j) hj);rw[LT] at HG;rw[HTF.out j hj] at HG;generalize Ap (vt j) (vt (8+j))=x1 at *;generalize Ap (h j) x1=x2 at *;go_wp2_with fail
        go_region
        go_wp2_with fail
        go_roundg (8-(j+1))
        case rel=>exact⟨j+1,Hid.mk (by omega),by go_num,HG.out,(g2.other _ (by omega)),(gv.other _ (by omega)),(Below.setCell hB (by simp) _).drew⟩
        case measure=>have:=HJ.out;omega
       ·have hj2:j=8:=by omega
        subst hj2;replace g0:=g0.congr (s':=Bh h bl t true) LV;clear hj hj8 HJ HTF
        go_wp2_with (first|(refine Aq Mr g0 (by rfl) ?_)|(refine A1 Mr g2 (by rfl) (by rfl) ?_;intro v9 g9 o9))
        exact bodyPost_ret (v:=.agg (WA .u32 8 (Bh h bl t true))) (AE rfl Mr g9 rfl) rfl ⟨rfl,hB.trans (o9.below (by omega))⟩
theorem Xp:Da 194 8:=⟨_,_,underlying194,by kernel_rfl⟩
theorem Ng(h:Nat→Int)(w:World)(hh:∀i,i<8→W32 (h i)):Calls prog 173 #[.agg (WA .u32 8 h)] w fun e w'=>e=.returned (.agg (WA .u8 32 (DL h)))∧Below w.heap.size w w':=by
 have g0:ArrAt (((w.alloc (.cells (WA .u32 8 h) 194)).alloc (.cells (WA .u8 32 fun _=>0) 22)).alloc (.cells (WA .u8 32 fun _=>0) 22)) w.heap.size .u32 194 8 h:=A6 w _ _ _;have g1:ArrAt (((w.alloc (.cells (WA .u32 8 h) 194)).alloc (.cells (WA .u8 32 fun _=>0) 22)).alloc (.cells (WA .u8 32 fun _=>0) 22)) (w.heap.size+1) .u8 22 32 (fun _=>0):=AB w _ _ _;have g2:ArrAt (((w.alloc (.cells (WA .u32 8 h) 194)).alloc (.cells (WA .u8 32 fun _=>0) 22)).alloc (.cells (WA .u8 32 fun _=>0) 22)) (w.heap.size+1+1) .u8 22 32 (fun _=>0):=AK w _ _ _;have hB:Below w.heap.size w (((w.alloc (.cells (WA .u32 8 h) 194)).alloc (.cells (WA .u8 32 fun _=>0) 22)).alloc (.cells (WA .u8 32 fun _=>0) 22)):=(((Below.refl _ w).alloc (by simp) _).alloc (by simp) _).alloc (by simp;omega) _;go_enter func173,ntmps173;go_wp2_with fail
 go_loopg [5] 32 (fun m i v=>∃j:Nat,Hid (m+j=32)∧i=.int .i64 j∧ArrAt v w.heap.size .u32 194 8 h∧ArrAt v (w.heap.size+1) .u8 22 32 (fun _=>0)∧ArrAt v (w.heap.size+1+1) .u8 22 32 (prt (DL h) j)∧Below w.heap.size w v)
 case atStart=>exact⟨0,Hid.mk rfl,rfl,g0,g1,by rw[Jc];exact g2,hB⟩
 case round =>
  clear g0 g1 g2 hB;obtain⟨j,HJ,rfl,g0,g1,g2,hB⟩:=hrel;have hj32:j≤32:=by have:=HJ.out;omega
  by_cases hlt:j<32
  ·have HN:=Hid.mk (Jb (DL h) j)
   have hq:((j:Nat):Int).tdiv 4=((j/4:Nat):Int):=by rw[Ac8 (by omega)];rfl
   have hr:((j:Nat):Int).tmod 4=((j%4:Nat):Int):=by rw[Acz (by omega)];rfl
   have ha:j/4<8:=by omega
   have c0:=g0.cell (j/4) ha;have w0:=hh (j/4) ha;unfold W32 at w0;have c2:=g2.cell j hlt;have f2:=g2.free j;have HO:Hid (DL h j=h (j/4)/256 ^ (j%4)%256):=Hid.mk rfl;have hb:j%4=0∨j%4=1∨j%4=2∨j%4=3:=by omega
   generalize j/4=a at *;generalize h a=x at *;have HG:=Hid.mk (g2.set j (DL h j) hlt);rw[HN.out] at HG
   rcases hb with hb | hb | hb | hb
   ·rw[hb] at HO hr
    have HO2:Hid (DL h j=x%256):=Hid.mk (by rw[HO.out];simp);rw[HO2.out] at HG;clear HO HN;go_wp2_with fail
    go_roundg (32-(j+1))
    case rel=>exact⟨j+1,Hid.mk (by omega),by go_num,g0.other _ (by omega),g1.other _ (by omega),HG.out,Below.setCell hB (by simp;omega) _⟩
    case measure=>have:=HJ.out;omega
   ·rw[hb] at HO hr
    have HO2:Hid (DL h j=x/256%256):=Hid.mk (by rw[HO.out];simp);rw[HO2.out] at HG;clear HO HN;go_wp2_with fail
    go_roundg (32-(j+1))
    case rel=>exact⟨j+1,Hid.mk (by omega),by go_num,g0.other _ (by omega),g1.other _ (by omega),HG.out,Below.setCell hB (by simp;omega) _⟩
    case measure=>have:=HJ.out;omega
   ·rw[hb] at HO hr
    have HO2:Hid (DL h j=x/65536%256):=Hid.mk (by rw[HO.out];simp);rw[HO2.out] at HG;clear HO HN;go_wp2_with fail
    go_roundg (32-(j+1))
    case rel=>exact⟨j+1,Hid.mk (by omega),by go_num,g0.other _ (by omega),g1.other _ (by omega),HG.out,Below.setCell hB (by simp;omega) _⟩
    case measure=>have:=HJ.out;omega
   ·rw[hb] at HO hr
    have HO2:Hid (DL h j=x/16777216):=Hid.mk (by rw[HO.out];simp;omega);rw[HO2.out] at HG;clear HO HN;go_wp2_with fail
    go_roundg (32-(j+1))
    case rel=>exact⟨j+1,Hid.mk (by omega),by go_num,g0.other _ (by omega),g1.other _ (by omega),HG.out,Below.setCell hB (by simp;omega) _⟩
    case measure=>have:=HJ.out;omega
  ·have hj2:j=32:=by omega
   subst hj2;clear hlt hj32 HJ;replace g2:=g2.congr (s':=DL h) Jd
   go_wp2_with (first|(refine Aq Af g2 (by rfl) ?_)|(refine A1 Af g1 (by rfl) (by rfl) ?_;intro v4 g4 o4))
   exact bodyPost_ret (v:=.agg (WA .u8 32 (DL h))) (AE rfl Af g4 rfl) rfl ⟨rfl,hB.trans (o4.below (by omega))⟩
theorem LW(size kl:Nat)(w:World)(hT:Tabs w)(hs:size≤64)(hk:kl≤64):Calls prog 171 #[.int .i64 (size:Int),.int .i64 (kl:Int)] w fun e w'=>e=.returned (.agg (WA .u32 8 (h0F size kl)))∧Below w.heap.size w w':=by
 have g0:ArrAt ((w.alloc (.cells (WA .u32 8 fun _=>0) 194)).alloc (.cells (WA .u32 8 fun _=>0) 194)) w.heap.size .u32 194 8 (fun _=>0):=heap_alloc2_old w _ _;have g1:ArrAt ((w.alloc (.cells (WA .u32 8 fun _=>0) 194)).alloc (.cells (WA .u32 8 fun _=>0) 194)) (w.heap.size+1) .u32 194 8 (fun _=>0):=heap_alloc2_new w _ _;have hB:Below w.heap.size w ((w.alloc (.cells (WA .u32 8 fun _=>0) 194)).alloc (.cells (WA .u32 8 fun _=>0) 194)):=((Below.refl _ w).alloc (by simp) _).alloc (by simp) _;have hTw:=Hid.mk hT;have h2:=hT.two;go_enter func171,ntmps171;go_wp2_with fail
 go_loopg [7] 8 (fun m i v=>∃j:Nat,Hid (m+j=8)∧i=.int .i64 j∧ArrAt v w.heap.size .u32 194 8 (fun _=>0)∧ArrAt v (w.heap.size+1) .u32 194 8 (prt bgn j)∧Below w.heap.size w v)
 case atStart=>exact⟨0,Hid.mk rfl,rfl,g0,by rw[Jc];exact g1,hB⟩
 case round =>
  clear g0 g1 hB;obtain⟨j,HJ,rfl,g0,g1,hB⟩:=hrel;have hj8:j≤8:=by have:=HJ.out;omega
  by_cases hlt:j<8
  ·have co:=(hTw.out.below hB h2).beg j hlt
   have HN:=Hid.mk (Jb bgn j);have c1:=g1.cell j hlt;have f1:=g1.free j;generalize bgn j=o at *;go_wp2_with fail
   go_roundg (8-(j+1))
   case rel=>exact⟨j+1,Hid.mk (by omega),by go_num,g0.other _ (by omega),by rw[←HN.out];exact g1.set j _ hlt,Below.setCell hB (by simp) _⟩
   case measure=>have:=HJ.out;omega
  ·have hj2:j=8:=by omega
   subst hj2;clear hlt hj8 HJ;replace g1:=g1.congr (s':=bgn) Jd;have c1:=g1.cell 0 (by omega);have f1:=g1.free 0;have wb:=Gh 0;have k1:W32 ((kl:Int)*256):=by unfold W32;omega
   have k2:W32 (size:Int):=by unfold W32;omega
   have x1:=Cj (x:=16842752) (by unfold W32;omega) k1;have x2:=Cj (A9 (x:=16842752) (by unfold W32;omega) k1) k2;have x3:=Cj wb (A9 (A9 (x:=16842752) (by unfold W32;omega) k1) k2)
   have HE:Hid (upd bgn 0 (Ap (bgn 0) (Ap (Ap 16842752 ((kl:Int)*256)) (size:Int)))=h0F size kl):=Hid.mk (by
    unfold h0F;rw[Acy (kl:Int) 256];unfold Ap;simp only[AcB,Nat.xor_assoc])
   have HG:=Hid.mk (g1.set 0 (Ap (bgn 0) (Ap (Ap 16842752 ((kl:Int)*256)) (size:Int))) (by omega));rw[HE.out] at HG;replace g0:=g0.other (g:=w.heap.size+1) (i:=0) (.int .u32 (Ap (bgn 0) (Ap (Ap 16842752 ((kl:Int)*256)) (size:Int)))) (by omega);replace hB:=Below.setCell hB (p:=⟨w.heap.size+1,0,none⟩) (by simp) (.int .u32 (Ap (bgn 0) (Ap (Ap 16842752 ((kl:Int)*256)) (size:Int))));generalize Ap 16842752 ((kl:Int)*256)=y1 at *;generalize Ap y1 (size:Int)=y2 at *;generalize Ap (bgn 0) y2=y3 at *;clear g1 HE;have g1:=HG.out
   go_wp2_with (first|(refine Aq Xp g1 (by rfl) ?_)|(refine A1 Xp g0 (by rfl) (by rfl) ?_;intro v4 g4 o4))
   exact bodyPost_ret (v:=.agg (WA .u32 8 (h0F size kl))) (AE rfl Xp g4 rfl) rfl ⟨rfl,hB.trans (o4.below (by omega))⟩
def Hw(H:Nat→Int)(t:Int)(B:Nat→Int)(l:Int)(i:Nat):Value:=if i<8 then .int .u32 (H i) else if i<9 then .int .u64 t else if i<73 then .int .u8 (B (i-9)) else .int .i64 l
def JJ(H:Nat→Int)(t:Int)(B:Nat→Int)(l:Int):Array Value:=((Aco 74).map (Hw H t B l)).toArray
theorem Hm(H:Nat→Int)(t:Int)(B:Nat→Int)(l:Int):(JJ H t B l).size=74:=by simp[JJ]
theorem Jf(H:Nat→Int)(t:Int)(B:Nat→Int)(l:Int)(i:Nat)(h:i<74):(JJ H t B l)[i]?=some (Hw H t B l i):=by simp[JJ,h]
theorem P2{cs:Array Value}{H:Nat→Int}{t:Int}{B:Nat→Int}{l:Int}(hs:cs.size=74)(h:∀i,i<74→cs[i]?=some (Hw H t B l i)):cs=JJ H t B l:=by
 apply AcK;intro i
 by_cases hi:i<74
 ·rw[h i hi,Jf H t B l i hi]
 ·rw[Acv (by omega),Acv (by rw[Hm];omega)]
def HashAt(w:World)(b:Nat)(H:Nat→Int)(t:Int)(B:Nat→Int)(l:Int):Prop:=w.heap[b]?=some (.cells (JJ H t B l) 197 (0,0))
section
variable {w w':World} {b:Nat} {H B:Nat→Int} {t l:Int}
theorem HashAt.at(h:HashAt w b H t B l)(i:Nat)(hi:i<74):w.cell? ⟨b,i,none⟩=some (Hw H t B l i):=by
 rw[cell_of_row w b i _ _ _ h,Jf H t B l i hi]
theorem HashAt.free(h:HashAt w b H t B l)(i:Nat):w.frozen? ⟨b,i,none⟩=false:=frozen_of_row w b i _ _ h
theorem HashAt.lt(h:HashAt w b H t B l):b<w.heap.size:=Aa h
theorem HashAt.block(h:HashAt w b H t B l)(e:w'.heap[b]?=w.heap[b]?):HashAt w' b H t B l:=e.trans h
theorem HashAt.alloc(h:HashAt w b H t B l)(o:Obj):HashAt (w.alloc o) b H t B l:=h.block (Below.heap_alloc _ _ _ h.lt)
theorem HashAt.drew(h:HashAt w b H t B l):HashAt w.drew b H t B l:=h
theorem HashAt.st(h:HashAt w b H t B l):w.rangeAt b 0 (AC .u32 8 H):=fun j v hj=>by
 obtain⟨hj2,rfl⟩:=B6 hj;rw[Acl,h.at j (by omega)];unfold Hw;rw[if_pos hj2]
theorem HashAt.bk(h:HashAt w b H t B l):w.rangeAt b 9 (AC .u8 64 B):=fun j v hj=>by
 obtain⟨hj2,rfl⟩:=B6 hj;rw[h.at (9+j) (by omega)];unfold Hw;rw[if_neg (by omega),if_neg (by omega),if_pos (by omega),Ac0]
theorem HashAt.taken(h:HashAt w b H t B l):w.cell? ⟨b,8,none⟩=some (.int .u64 t):=h.at 8 (by decide)
theorem HashAt.held(h:HashAt w b H t B l):w.cell? ⟨b,73,none⟩=some (.int .i64 l):=h.at 73 (by decide)
theorem HashAt.cells{o:Nat}(h:HashAt w b H t B l)(vs:List Value)(hl:o+vs.length≤74){H' B':Nat→Int}{t' l':Int}(h1:∀j,j<vs.length→vs[j]?=some (Hw H' t' B' l' (o+j)))(h2:∀i,i<74→i<o∨o+vs.length≤i→Hw H' t' B' l' i=Hw H t B l i):HashAt (w.setCells b o vs) b H' t' B' l'∧Only b w (w.setCells b o vs):=by
 obtain⟨C',k1,k2,k3,k4,k5⟩:=BE vs o w _ h (by rw[Hm];exact hl);refine⟨?_,k5⟩
 have e:C'=JJ H' t' B' l':=by
  refine P2 (by rw[k2,Hm]) (fun i hi=>?_)
  by_cases c:i<o∨o+vs.length≤i
  ·rw[k4 i c,Jf _ _ _ _ i hi,h2 i hi c]
  ·have:=k3 (i-o) (by omega)
   rw[show o+(i-o)=i by omega] at this;rw[this,h1 (i-o) (by omega),show o+(i-o)=i by omega]
 unfold HashAt;rw[←e];exact k1
theorem HashAt.setSt(h:HashAt w b H t B l)(H':Nat→Int):HashAt (w.setCells b 0 (AC .u32 8 H')) b H' t B l∧Only b w (w.setCells b 0 (AC .u32 8 H')):=by
 refine h.cells (AC .u32 8 H') (by rw[A3];omega) (fun j hj=>?_) (fun i hi hc=>?_)
 ·rw[A3] at hj
  rw[BC .u32 8 H' hj];unfold Hw;rw[if_pos (by omega),Acl]
 ·rw[A3] at hc
  have r:¬i<8:=by omega
  unfold Hw;rw[if_neg r,if_neg r]
theorem HashAt.setBk(h:HashAt w b H t B l)(o m:Nat)(r:Nat→Int)(hm:o+m≤64):HashAt (w.setCells b (9+o) (AC .u8 m r)) b H t (over B o m r) l∧Only b w (w.setCells b (9+o) (AC .u8 m r)):=by
 refine h.cells (AC .u8 m r) (by rw[A3];omega) (fun j hj=>?_) (fun i hi hc=>?_)
 ·rw[A3] at hj
  rw[BC .u8 m r hj];unfold Hw over;rw[if_neg (by omega),if_neg (by omega),if_pos (by omega),if_pos (by omega),show 9+o+j-9-o=j by omega]
 ·rw[A3] at hc
  unfold Hw over
  split
  ·rfl
  split
  ·rfl
  split
  ·rw[if_neg (by omega)]
  ·rfl
theorem HashAt.setTaken(h:HashAt w b H t B l)(t':Int):HashAt (w.setCell ⟨b,8,none⟩ (.int .u64 t')) b H t' B l:=by
 have h1:=(h.cells (o:=8) [.int .u64 t'] (by simp) (H':=H) (t':=t') (B':=B) (l':=l) (fun j hj=>by
  have:j=0:=by simpa using hj
  subst this
  rfl) (fun i hi hc=>by
   simp at hc;unfold Hw
   split
   ·rfl
   split
   ·omega
   ·rfl)).1
 exact h1
theorem HashAt.setHeld(h:HashAt w b H t B l)(l':Int):HashAt (w.setCell ⟨b,73,none⟩ (.int .i64 l')) b H t B l':=by
 have h1:=(h.cells (o:=73) [.int .i64 l'] (by simp) (H':=H) (t':=t) (B':=B) (l':=l') (fun j hj=>by
  have:j=0:=by simpa using hj
  subst this
  rfl) (fun i hi hc=>by
   simp at hc;unfold Hw
   split
   ·rfl
   split
   ·rfl
   split
   ·rfl
   ·omega)).1
 exact h1
theorem HashAt.congr{B':Nat→Int}(h:HashAt w b H t B l)(e:∀i,i<64→B i=B' i):HashAt w b H t B' l:=by
 have:JJ H t B l=JJ H t B' l:=P2 (Hm _ _ _ _) (fun i hi=>by
  rw[Jf _ _ _ _ i hi];unfold Hw
  split
  ·rfl
  split
  ·rfl
  split
  ·rw[e (i-9) (by omega)]
  ·rfl)
 unfold HashAt;rw[←this];exact h
end
theorem Gc(b:Nat){w w':World}(h:Below w.heap.size w w'):Touch (fun x=>x=b) w w':=⟨h.os,h.tape,h.output,h.size,fun k hk _=>h.block k hk⟩
theorem Aa8(b k:Nat)(w:World):k<4→(Instr.fieldAt 197 (.pointer (some ⟨b,0,none⟩)) k).run prog w=.ok (.pointer (some ⟨b,[0,8,9,73].getD k 0,none⟩)) w:=by
 intro hk
 match k,hk with
 | 0,_=>simp[go_sem]
 | 1,_=>simp[go_sem]
 | 2,_=>simp[go_sem]
 | 3,_=>simp[go_sem]
theorem K6{a:Act}{o:Oper}{w:World}{x:Operand}{k:Nat}(ho:o.op=.fieldAddr 197 x k){b:Nat}(hx:a.eval x=.pointer (some ⟨b,0,none⟩))(hk:k<4):(execOp a.eval o).run prog w=.ok (.value (.pointer (some ⟨b,[0,8,9,73].getD k 0,none⟩))) w:=by
 have h:=Aa8 b k w hk;unfold execOp;simp only[ho,hx,Sem.run_bind,h,Result.andThen_ok,Sem.run_pure]
theorem QR{w:World}{p:Addr}{n:Int}(h:w.cell? p=some (.int .u64 n)):(Instr.loadAt 98 (.pointer (some p))).run prog w=.ok (.int .u64 n) w:=by
 simp[go_sem,h]
theorem Xq{o:Oper}{a:Act}{w:World}{K:Act→World→Prop}{Q:Exit→Act→World→Prop}{x y:Operand}(ho:o.op=.store 194 x y){b:Nat}{H B s:Nat→Int}{t l:Int}(hx:a.eval x=.pointer (some ⟨b,0,none⟩))(hy:a.eval y=.agg (WA .u32 8 s))(gm:HashAt w b H t B l)(h:∀w2,HashAt w2 b s t B l→Only b w w2→K (a.put o.dst undef) w2):o.wp prog a w K Q:=by
 obtain⟨_,_,_,h3⟩:=Mr;have h2:=gm.setSt s;exact wp_store_mid 194 x y ho b 0 (WA .u32 8 s) hx hy (fun j hj=>by rw[A5] at hj;exact⟨by rw[gm.at (0+j) (by omega)];rfl,gm.free _⟩) (by rw[A5];exact h3) (Fl .u32 8 s) (h _ h2.1 h2.2)
theorem Ok(args:Array Value)(w:World):(callFunc 197 args).run prog w=.ok (.enter 197 args) w:=by kernel_rfl
theorem P3(b l:Nat)(H B:Nat→Int)(t:Int)(last:Bool)(w:World)(hTw:Tabs w)(hb2:3≤b)(gm:HashAt w b H t B (l:Int))(hH:∀i,i<8→W32 (H i))(hB:Byts 64 B)(ht:0≤t)(htl:t+(l:Int)<18446744073709551616)(hl:l≤64):Calls prog 172 #[.pointer (some ⟨b,0,none⟩),.bool last] w fun e w'=>e=.returned (.tuple #[])∧HashAt w' b (Bh H B (t+(l:Int)) last) (t+(l:Int)) B 0∧Touch (fun x=>x=b) w w':=by
 have HT:Hid (∀u,Touch (fun x=>x=b) w u→Tabs u):=Hid.mk (fun u hu=>hTw.touch hu hb2);have HTT:Hid (0≤t+(l:Int)∧t+(l:Int)<18446744073709551616):=Hid.mk (by omega);have ct:=gm.taken;have ch:=gm.held;have ft:=gm.free 8;have gm1:=gm.setTaken (t+(l:Int));have hT1:Touch (fun x=>x=b) w (w.setCell ⟨b,8,none⟩ (.int .u64 (t+(l:Int)))):=Ag only_set;clear gm;go_enter func172,ntmps172;go_wp2_with fail
 go_region
 go_wp2_with fail;refine AJ (fun v=>HashAt v b H (t+(l:Int)) B (l:Int)∧Touch (fun x=>x=b) w v) ⟨gm1,by first | exact hT1.drew | exact hT1⟩ ?_;clear gm1 hT1 ct ch ft;rintro v0 ⟨gm,hT⟩;refine Ai (Touch (fun x=>x=b) w) v0.heap.size
  [(b,once (JJ (H) (t+(l:Int)) B (l:Int)) 197 17 (JJ (Bh H B (t+(l:Int)) last) (t+(l:Int)) B (l:Int)))]
  [kv (.pointer (some ⟨b,0,none⟩)),kv (.pointer (some ⟨b,0,none⟩)),kv (.pointer (some ⟨b,0,none⟩)),kv (.pointer (some ⟨b,0,none⟩)),kv (.agg (WA .u32 8 H)),kv (.pointer (some ⟨b,0,none⟩)),kv (.pointer (some ⟨b,0,none⟩)),kv (.pointer (some ⟨b,9,none⟩)),kv (.agg (WA .u8 64 B)),kv (.pointer (some ⟨b,0,none⟩)),kv (.pointer (some ⟨b,0,none⟩)),kv (.pointer (some ⟨b,8,none⟩)),kv (.int .u64 (t+(l:Int))),kv (.bool last),kv (.agg (WA .u32 8 (Bh H B (t+(l:Int)) last))),kv (.pointer (some ⟨b,0,none⟩)),kv (.pointer (some ⟨b,0,none⟩)),.val fun _=>True]
  [.none,.none,.none,.none,.none,.none,.none,.none,.none,.none,.none,.none,.none,.none,.none,.none,.none,.base 0 1]
  [some 16,some 17,some 18,some 19,some 20,some 21,some 22,some 23,some 24,some 25,some 26,some 27,some 28,some 29,some 30,some 31,some 32,none]
  [(0,.pointer (some ⟨b,0,none⟩)),(1,.bool last)]
  [[],[],[.slot 1],[.slot 2],[.slot 3,.base 0 0],[],[.slot 5],[.slot 6],[.slot 7,.base 0 0],[],[.slot 9],[.slot 10],[.slot 11,.base 0 0],[],[.slot 4,.slot 8,.slot 12,.slot 13],[.slot 0],[.slot 15],[.slot 16,.slot 14,.base 0 0]]
  [.base 0 1] [16,17,18,19,20,21,22,23,24,25,26,27,28,29,30,31,32]
  rfl (by kernel_rfl) ⟨rfl,rfl,trivial⟩ (Touch.drew hT) (Acg _) ⟨⟨gm.lt,Al gm⟩,trivial⟩ ⟨trivial,trivial⟩ (Cb hT.size)
  ⟨
   sL fun f _=>sV (Ab rfl f.1),
   sL fun f _=>sV (Ab rfl f.1),
   sL fun _ k=>sV (AO rfl k.1),
   sL fun _ kn=>sV (K6 (k:=0) rfl kn.1 (by decide)),
   sL fun _ k=>sV (Ao rfl Mr k.1 (HashAt.st (Ak k.2.1))),
   sL fun f _=>sV (Ab rfl f.1),
   sL fun _ k=>sV (AO rfl k.1),
   sL fun _ kn=>sV (K6 (k:=2) rfl kn.1 (by decide)),
   sL fun _ k=>sV (Ao rfl Gj k.1 (HashAt.bk (Ak k.2.1))),
   sL fun f _=>sV (Ab rfl f.1),
   sL fun _ k=>sV (AO rfl k.1),
   sL fun _ kn=>sV (K6 (k:=1) rfl kn.1 (by decide)),
   sL fun _ k=>sV (At rfl k.1 (QR (HashAt.taken (Ak k.2.1)))),
   sL fun f _=>sV (Ab rfl f.2.1),
   (fun _ _ ww _ hS _ _ kn=>.inl ⟨trivial,fun K hK=>AH Ok rfl (Iy kn.1 kn.2.1 kn.2.2.1 kn.2.2.2.1) (P0 H B _ last ww (HT.out ww hS) hH hB HTT.out) (fun w' hb=>hK _ _ ⟨Ac hb,rfl⟩)⟩),
   sL fun _ k=>sV (AO rfl k.1),
   sL fun _ kn=>sV (K6 (k:=0) rfl kn.1 (by decide)),
   sL fun _ k=>.inl ⟨trivial,fun K hK=>Xq rfl k.1 k.2.1 (Ak k.2.2.1) (fun w2 hg ho=>hK _ _ ⟨⟨Ag ho,Al hg⟩,trivial⟩)⟩,
   trivial⟩ ?_
 intro vs own v1 hT1 hs1 kn inj;clear inj hs1 gm hT;have gm:HashAt v1 b (Bh H B (t+(l:Int)) last) (t+(l:Int)) B (l:Int):=Ak kn.1;clear kn;simp only[Am,Act.put,Aci,Acj,Ach];have ch:=gm.held;have fh:=gm.free 73;have gm2:=gm.setHeld 0;go_wp2_with fail;refine bodyPost_end (results_none rfl _ _ _) rfl ?_;exact⟨rfl,gm2,hT1.trans (Ag only_set)⟩
end Go.Proofs.YthghcjepdhkfdaaGreatDoor
