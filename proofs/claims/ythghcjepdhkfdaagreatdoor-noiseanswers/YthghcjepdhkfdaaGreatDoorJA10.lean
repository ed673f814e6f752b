/-
  Own text. What step and Times of package curve give: the ladder's step, X25519 as a number.
-/
import Derived.Test.YthghcjepdhkfdaaGreatDoorJA9
import Derived.Test.YthghcjepdhkfdaaGreatDoorJA7
import Derived.Test.YthghcjepdhkfdaaGreatDoorJA2
import Derived.Test.YthghcjepdhkfdaaGreatDoorJA3
import Derived.Lib.SliceRun
set_option maxHeartbeats 16000000
set_option maxRecDepth 100000
open Array renaming ext_getElem?→Adh,getElem?_eq_none→AcI
open Int renaming add_mul_ediv_left→Adp,mul_assoc→AcC,mul_comm→AcL,pow_add→AcO,pow_succ→AcF,tdiv_eq_ediv_of_nonneg→AcW,tmod_eq_emod_of_nonneg→AcM,toNat_natCast→AcZ
open List renaming getD_eq_getElem?_getD→Ade,getElem?_eq_none→AcV,map_cons→AcG,map_nil→AcD,map_toArray→AcH,range→AcA,setIfInBounds_toArray→Ac6,set_cons_succ→Ac5,set_cons_zero→Ac7
open Nat renaming add_sub_cancel_left→AcJ,add_zero→AcU,le_refl→Ac4,le_trans→AcE,ne_of_lt→Ac8,zero_add→Ac9
namespace Go.Proofs.YthghcjepdhkfdaaGreatDoor.Fld
open Go.RowKit Go.Proofs
open Tryz
def RG(q:Qd pN)(V:Value):Prop:=∃x z v w,V=.agg (Q4 x z v w)∧N256 x∧N256 z∧N256 v∧N256 w∧QI x z v w=q
def RGo(q:Qd pN)(ob:Obj):Prop:=∃x z v w,ob=.cells (Q4 x z v w) 136 (0,0)∧N256 x∧N256 z∧N256 v∧N256 w∧QI x z v w=q
theorem AbS(x z v w:Int)(hx:N256 x)(hz:N256 z)(hv:N256 v)(hw:N256 w):RG (QI x z v w) (.agg (Q4 x z v w)):=⟨x,z,v,w,rfl,hx,hz,hv,hw,rfl⟩
theorem Zz(b:Bool)(x z v w:Int):QI (tb b x v) (tb b z w) (tb b v x) (tb b w z)=Qd.turn b (QI x z v w):=by cases b<;>rfl
theorem LF(b:Bool)(q:Qd pN)(V:Value)(hV:RG q V)(wd:World):Calls prog 134 #[V,.int .u8 (bI b)] wd fun e w'=>∃v,e=.returned v∧RG (Qd.turn b q) v∧Below wd.heap.size wd w':=by
 obtain⟨x,z,v,w,rfl,hx,hz,hv,hw,rfl⟩:=hV;refine(Pn b x z v w wd).mono ?_;rintro e w' ⟨rfl,hb⟩;exact⟨_,rfl,⟨_,_,_,_,rfl,Eu hx hv,Eu hz hw,Eu hv hx,Eu hw hz,Zz b x z v w⟩,hb⟩
theorem QE(u:Int)(q:Qd pN)(V:Value)(hV:RG q V)(wd:World)(hP:PrimeAt wd)(Nu:N256 u):Calls prog 135 #[V,.agg (BA u)] wd fun e w'=>∃v,e=.returned v∧RG (Qd.core kN (ofI u) q) v∧Below wd.heap.size wd w':=by
 obtain⟨x,z,v,w,rfl,hx,hz,hv,hw,rfl⟩:=hV;refine(Pj x z v w u wd hP hx hz hv hw Nu).mono ?_;rintro e w' ⟨⟨x',z',v',w2,rfl,h1,h2,h3,h4,h5⟩,hb⟩;exact⟨_,rfl,⟨_,_,_,_,rfl,h1,h2,h3,h4,h5⟩,hb⟩
theorem QF{f:FuncId}(hc:∀args w,(callFunc f args).run prog w=.ok (.enter f args) w){x y:Operand}{ts:Array TypeId}{o:Oper}{a:Act}{w:World}{K:Act→World→Prop}{Q:Exit→Act→World→Prop}{p:Value→Prop}(ho:o.op=.call { callee:=.value (.func f),args:=#[x,y],argTypes:=ts }){V V2:Value}(hx:a.eval x=V)(hy:a.eval y=V2)(hC:Calls prog f #[V,V2] w fun r w'=>∃v,r=.returned v∧p v∧Below w.heap.size w w')(h:∀v w',p v→Below w.heap.size w w'→K (a.put o.dst v) w'):o.wp prog a w K Q:=by
 refine Gu (E8 hc #[x,y] ts ho) ?_;simp only[AcH,AcG,AcD,hx,hy];exact hC.mono (fun e w' ⟨v,he,hp,hb⟩=>⟨v,he,h v w' hp hb⟩)
theorem AaO{f:FuncId}(hc:∀args w,(callFunc f args).run prog w=.ok (.enter f args) w){x y z:Operand}{ts:Array TypeId}{o:Oper}{a:Act}{w:World}{K:Act→World→Prop}{Q:Exit→Act→World→Prop}{p:Value→Prop}(ho:o.op=.call { callee:=.value (.func f),args:=#[x,y,z],argTypes:=ts }){V V2 V3:Value}(hx:a.eval x=V)(hy:a.eval y=V2)(hz:a.eval z=V3)(hC:Calls prog f #[V,V2,V3] w fun r w'=>∃v,r=.returned v∧p v∧Below w.heap.size w w')(h:∀v w',p v→Below w.heap.size w w'→K (a.put o.dst v) w'):o.wp prog a w K Q:=by
 refine Gu (E8 hc #[x,y,z] ts ho) ?_;simp only[AcH,AcG,AcD,hx,hy,hz];exact hC.mono (fun e w' ⟨v,he,hp,hb⟩=>⟨v,he,h v w' hp hb⟩)
theorem IU(args:Array Value)(w:World):(callFunc 134 args).run prog w=.ok (.enter 134 args) w:=by kernel_rfl
theorem Od(args:Array Value)(w:World):(callFunc 135 args).run prog w=.ok (.enter 135 args) w:=by kernel_rfl
theorem Un(args:Array Value)(w:World):(callFunc 101 args).run prog w=.ok (.enter 101 args) w:=by kernel_rfl
theorem QG(args:Array Value)(w:World):(callFunc 102 args).run prog w=.ok (.enter 102 args) w:=by kernel_rfl
theorem Xn{a:Act}{o:Oper}{wd:World}{K:Act→World→Prop}{Q:Exit→Act→World→Prop}{X Y:Operand}(ho:o.op=.store 136 X Y){g:Nat}(hx:a.eval X=.pointer (some ⟨g,0,none⟩)){q:Qd pN}(hy:RG q (a.eval Y)){x z v w:Int}(hg:wd.heap[g]?=some (.cells (Q4 x z v w) 136 (0,0)))(h:∀w2,ContOK (RGo q) w2 g→Only g wd w2→K (a.put o.dst undef) w2):o.wp prog a wd K Q:=by
 obtain⟨x',z',v',w',e,h1,h2,h3,h4,h5⟩:=hy;exact JA ho hx e hg (AM _ _ _ _) (fun w2 hg2 ho2=>h w2 ⟨_,hg2,x',z',v',w',rfl,h1,h2,h3,h4,h5⟩ ho2)
theorem Po{a:Act}{o:Oper}{w:World}{x:Operand}(ho:o.op=.binOp .sub 3 (.const (.int .i64 254)) x 3){n:Nat}(hx:a.eval x=.int .i64 (n:Int))(hn:n≤255):(execOp a.eval o).run prog w=.ok (.value (.int .i64 (254-(n:Int)))) w:=by
 have h:IntKind.i64.wrap (254-(n:Int))=254-(n:Int):=by rw[IntKind.wrap_i64];omega
 unfold execOp;simp only[ho,hx];simp[Act.eval,go_sem,h]
theorem Z0(u:Int)(b:Bool)(q:Qd pN)(VV:Value)(hV:RG q VV)(wd:World)(hP:PrimeAt wd)(Nu:N256 u):Calls prog 101 #[VV,.int .u8 (bI b),.agg (BA u)] wd fun e w'=>∃v,e=.returned v∧RG (Qd.step kN (ofI u) b q) v∧Below wd.heap.size wd w':=by
 have hV0:=hV;obtain⟨x,z,v,w,rfl,-⟩:=hV0;have hz:=Cp hP;have hzero:=Ge;have HP:=Hid.mk hP;clear hP;go_enter func101,ntmps101;go_wp2_with fail;refine AH (fun v0=>v0.heap[wd.heap.size]?=some (.cells (Q4 x z v w) 136 (0,0))∧v0.heap[wd.heap.size+1]?=some (.cells (BA u) 22 (0,0))∧v0.heap[wd.heap.size+1+1]?=some (.cells (Q4 0 0 0 0) 136 (0,0))∧En wd v0)
  ⟨AA wd _ _ _,AG wd _ _ _,AP wd _ _ _,D3 hz ⟨Below.refl _ _,HP.out⟩ (by repeat first | exact Below.refl _ _ | refine Below.alloc ?_ (by simp<;>omega) _)⟩ ?_
 rintro v0 ⟨g3,g5,g6,hK⟩;clear hzero HP;refine Ai (En wd) v0.heap.size
  [(wd.heap.size,AN (Q4 x z v w) 136),((wd.heap.size+1),AN (BA u) 22),((wd.heap.size+1+1),⟨Ey (Q4 0 0 0 0) 136,[(7,RGo (Qd.step kN (ofI u) b q))]⟩)]
  [kv (.agg (Q4 x z v w)),kv (.int .u8 (bI b)),.val (RG (Qd.turn b q)),kv (.agg (BA u)),.val (RG (Qd.core kN (ofI u) (Qd.turn b q))),kv (.int .u8 (bI b)),.val (RG (Qd.step kN (ofI u) b q)),.val fun _=>True]
  [.none,.none,.none,.none,.none,.none,.none,.base 2 1]
  [some 7,some 8,some 9,some 10,some 11,some 12,some 13,none]
  [(1,.int .u8 (bI b)),(3,.pointer (some ⟨wd.heap.size,0,none⟩)),(5,.pointer (some ⟨(wd.heap.size+1),0,none⟩)),(6,.pointer (some ⟨(wd.heap.size+1+1),0,none⟩))]
  [[.base 0 0],[],[.slot 0,.slot 1],[.base 1 0],[.slot 2,.slot 3],[],[.slot 4,.slot 5],[.base 2 0,.slot 6]]
  [.base 2 1] [7,8,9,10,11,12,13]
  rfl (by kernel_rfl) ⟨rfl,rfl,rfl,rfl,trivial⟩ (Cn hK) (Ac4 _) ⟨⟨Aa g3,Ao g3⟩,⟨Aa g5,Ao g5⟩,⟨Aa g6,Ao g6⟩,trivial⟩ ⟨⟨trivial,(show (wd.heap.size:Nat)≠(wd.heap.size+1+1) from by omega),trivial⟩,⟨(show ((wd.heap.size+1):Nat)≠(wd.heap.size+1+1) from by omega),trivial⟩,trivial,trivial⟩ (Ev hz hK.1.size ⟨by omega,by omega,by omega,trivial⟩)
  ⟨
   sL fun f k=>sV (LA rfl f.2.1 (Ak k.1)),
   sL fun f _=>.inl ⟨trivial,fun K hK=>AR (Ab _ rfl) (hK _ _ ⟨Touch.refl _ _,f.1⟩)⟩,
   (fun _ _ ww _ _ _ _ kn=>.inl ⟨trivial,fun K hK=>QF IU rfl kn.1 kn.2.1 (LF b q _ hV ww) (fun v w' hp hb=>hK _ _ ⟨Ad hb,hp⟩)⟩),
   sL fun f k=>sV (BX rfl f.2.2.1 (Ak k.1)),
   (fun _ _ ww _ hS _ _ kn=>.inl ⟨trivial,fun K hK=>QF Od rfl rfl kn.2.1 (QE u _ _ kn.1 ww hS.2 Nu) (fun v w' hp hb=>hK _ _ ⟨Ad hb,hp⟩)⟩),
   sL fun f _=>.inl ⟨trivial,fun K hK=>AR (Ab _ rfl) (hK _ _ ⟨Touch.refl _ _,f.1⟩)⟩,
   (fun _ _ ww _ _ _ _ kn=>.inl ⟨trivial,fun K hK=>QF IU rfl rfl kn.2.1 (LF b _ _ kn.1 ww) (fun v w' hp hb=>hK _ _ ⟨Ad hb,hp⟩)⟩),
   sL fun f k=>.inl ⟨trivial,fun K hK=>Xn rfl f.2.2.2.1 k.2.1 (Ak k.1) (fun w2 hg ho=>hK _ _ ⟨⟨Ag ho,hg⟩,trivial⟩)⟩,
   trivial⟩ ?_
 intro vs own v1 hK1 hs1 kn inj;obtain⟨ob,g6,x',z',v',w',rfl,h1,h2,h3,h4,h5⟩:=kn.1;simp only[Ap,Act.put,Ac6,Ac7,Ac5];go_wp2;exact bodyPost_ret (v:=.agg (Q4 x' z' v' w')) (results_cell_row rfl _ _ _ _ _ _ _ rfl g6 underlying136 rfl (by rw[AM];exact Ff)) rfl
  ⟨_,rfl,⟨_,_,_,_,rfl,h1,h2,h3,h4,h5⟩,hK1.1⟩
theorem of1:(1:Int)%P255=1:=by decide +kernel
theorem of0:(0:Int)%P255=0:=by decide +kernel
theorem Pp(k u:Int)(w:World)(hP:PrimeAt w)(hk:N256 k):Calls prog 57 #[.agg (BA k),.agg (BA u)] w fun e w'=>e=.returned (.agg (BA (tN k u)))∧Below w.heap.size w w':=by
 have hz:=Cp hP;have HP:=Hid.mk hP;have HK:=Hid.mk hk;have HL:=Hid.mk (WF u);have hx0:N256 (u%W255):=by unfold N256 Bj W255;omega
 have HX0:=Hid.mk hx0;have hb31:=Bp u 31;unfold BO at hb31;obtain⟨hb310,hb311⟩:=hb31;have e127:=MR (byt u 31) hb310 hb311;clear hk hx0 hP;go_enter func57,ntmps57
 go_wp2_with (refine A7 rfl _ rfl _ _ rfl (AA w _ _ _) (Ah _) ?_)
 refine(Ul k _ HK.out).mono ?_;rintro e v1 ⟨rfl,hb1⟩;have gk:=Aj hb1 (AA w _ _ _) (by simp<;>omega);have gu:=Aj hb1 (AG w _ _ _) (by simp<;>omega);have gz:=Aj hb1 (AP w _ _ _) (by simp<;>omega)
 have hB:Below w.heap.size w v1:=by
  refine Below.trans ?_ (hb1.mono (by simp<;>omega))
  repeat first | exact Below.refl _ _ | refine Below.alloc ?_ (by simp<;>omega) _
 clear hb1
 go_wp2_with (refine Ba (by rfl) (by rfl) gk (Ah _) ?_;intro v2 gk2 o2;refine Hid.out ?_)
 replace gu:=(o2.block _ (by omega)).trans gu;replace gz:=(o2.block _ (by omega)).trans gz;replace hB:=Below.trans hB (Only.below (b:=w.heap.size) (B:=w.heap.size) o2 (Ac4 _));clear gk o2;refine Hid.mk ?_;have cu:=(cell_of_row v2 (w.heap.size+1) 31 _ _ _ gu).trans (BG u 31 (by omega));have fu:=frozen_of_row v2 (w.heap.size+1) 31 _ _ gu;generalize byt u 31=x31 at *
 go_wp2_with (refine A7 rfl _ rfl (w.heap.size+1) _ rfl (heap_setCell_same _ _ _ _ _ _ gu) (by simp[Ah]) ?_;rw[HL.out])
 refine(TG (u%W255) _ HX0.out.1 HX0.out.2).mono ?_;rintro e v3 ⟨rfl,hb3⟩;have gk3:=Aj hb3 ((heap_setCell_other _ _ _ _ (by simp)).trans gk2) (by have:=Aa gk2;simp;omega);have gz3:=Aj hb3 ((heap_setCell_other _ _ _ _ (by simp)).trans gz) (by have:=Aa gz;simp;omega);have hB3:Below w.heap.size w v3:=Below.trans (Below.setCell hB (by simp) _) (hb3.mono (by have:=hB.size;simp;omega));clear hb3 gk2 gz hB gu cu fu e127;have NX:=N256.mod (u%W255);obtain⟨x,hxe⟩:∃x,u%W255%P255=x:=⟨_,rfl⟩;rw[hxe] at NX ⊢;have HXE:=Hid.mk hxe;clear hxe
 go_wp2_with (refine Ba (by rfl) (by rfl) (heap_alloc_new v3 _) (by rfl) ?_;intro v4 gx o4;refine Hid.out ?_)
 have hs3:=Aa gz3;replace gk3:=(o4.block _ (Ac8 (Aa gk3))).trans ((Below.heap_alloc v3 _ _ (Aa gk3)).trans gk3);replace gz3:=(o4.block _ (Ac8 (Aa gz3))).trans ((Below.heap_alloc v3 _ _ (Aa gz3)).trans gz3);replace hB3:=Below.trans (hB3.alloc hB3.size _) (Only.below (b:=v3.heap.size) (B:=w.heap.size) o4 hB3.size);clear o4;generalize v3.heap.size=bx at *;have hK:En w v4:=D3 hz ⟨Below.refl _ _,HP.out⟩ hB3;clear hB3;refine Hid.mk ?_;have NN:=L6 k;obtain⟨N,hN⟩:∃N,Cw k=N:=⟨_,rfl⟩;have HN:=Hid.mk hN;rw[hN] at gk3 NN;clear hN;have gk:=gk3;have gz:=gz3;clear gk3 gz3;go_wp2_with fail;refine Ai (En w) v4.heap.size
  [(bx,AN (BA x) 22),(w.heap.size,AN (BA N) 22),((w.heap.size+1+1),AN (BA 0) 22)]
  [kv (.agg (BA 1)),kv (.agg (BA 0)),kv (.agg (BA x)),kv (.agg (BA 1)),kv (.agg (Q4 1 0 x 1)),kp (Q4 0 0 0 0) 136 6 (Q4 1 0 x 1),.val fun _=>True]
  [.none,.none,.none,.none,.none,.none,.own 5 1]
  [some 16,some 17,some 18,some 19,some 20,some 6,none]
  [(5,.pointer (some ⟨bx,0,none⟩))]
  [[],[],[.base 0 0],[],[.slot 0,.slot 1,.slot 2,.slot 3],[],[.slot 5,.cont 5 0,.slot 4]]
  [.slot 5,.cont 5 1,.base 0 0,.base 1 0,.base 2 0] [16,17,18,19,20,6]
  rfl (by kernel_rfl) ⟨rfl,trivial⟩ (Cn hK) (Ac4 _) ⟨⟨Aa gx,Ao gx⟩,⟨Aa gk,Ao gk⟩,⟨Aa gz,Ao gz⟩,trivial⟩ ⟨⟨trivial,trivial,trivial⟩,⟨trivial,trivial⟩,trivial,trivial⟩ (Ev hz hK.1.size ⟨by omega,by omega,by omega,trivial⟩)
  ⟨
   (fun _ _ ww _ hS _ _ _=>.inl ⟨trivial,fun K hK=>C6 IR rfl rfl (J3 1 ww hS.2 (by omega) (by omega)) (fun w' hb=>hK _ _ ⟨Ad hb,(congrArg (fun n=>Value.agg (BA n)) of1)⟩)⟩),
   (fun _ _ ww _ hS _ _ _=>.inl ⟨trivial,fun K hK=>C6 IR rfl rfl (J3 0 ww hS.2 (by omega) (by omega)) (fun w' hb=>hK _ _ ⟨Ad hb,(congrArg (fun n=>Value.agg (BA n)) of0)⟩)⟩),
   sL fun f k=>sV (BX rfl f.1 (Ak k.1)),
   (fun _ _ ww _ hS _ _ _=>.inl ⟨trivial,fun K hK=>C6 IR rfl rfl (J3 1 ww hS.2 (by omega) (by omega)) (fun w' hb=>hK _ _ ⟨Ad hb,(congrArg (fun n=>Value.agg (BA n)) of1)⟩)⟩),
   sL fun _ k=>sV (LB rfl k.1 k.2.1 k.2.2.1 k.2.2.2.1),
   sL fun _ _=>.inl ⟨trivial,fun K hK=>AU Ge rfl (fun w' hb hg=>hK _ _ ⟨Ad hb,_,Ac4 _,rfl,Ao hg⟩)⟩,
   sL fun _ k=>.inl ⟨trivial,fun K hK=>JA rfl k.1.1 k.2.2.1 (Ak k.2.1) (AM _ _ _ _) (fun w2 hg ho=>hK _ _ ⟨Ag ho,Ao hg,trivial⟩)⟩,
   trivial⟩ ?_
 intro vs own v5 hK5 hs5 kn inj;have e6:vs 6=.pointer (some ⟨own 5,0,none⟩):=kn.1.1;have l6:v4.heap.size≤own 5:=kn.1.2.1;have gp:=Ak kn.2.1;have gx5:=Ak kn.2.2.1;have gk5:=Ak kn.2.2.2.1;have gz5:=Ak kn.2.2.2.2.1;have hl4:=Aa gz;have hlx:=Aa gx;clear kn inj gx gk gz;generalize own 5=bp at *;simp only[Ap,Act.put,Ac6,Ac7,Ac5,e6];have hbp:w.heap.size+3≤bp:=by omega
 have hbxp:bx<bp:=by omega
 clear e6 l6 hl4 hlx hK own hs5;go_wp2
 go_loopg [21] 255 (fun m i v=>∃(j:Nat) (X Z V W:Int),Hid (m+j=255)∧i=.int .i64 (j:Int)∧N256 X∧N256 Z∧N256 V∧N256 W∧Hid (QI X Z V W=Qd.run kN (ofI x) (Fl N.toNat j) (Qd.start (ofI x))) ∧
  v.heap[w.heap.size]?=some (.cells (BA N) 22 (0,0))∧v.heap[w.heap.size+1+1]?=some (.cells (BA 0) 22 (0,0))∧v.heap[bx]?=some (.cells (BA x) 22 (0,0))∧v.heap[bp]?=some (.cells (Q4 X Z V W) 136 (0,0))∧En w v)
 case atStart=>exact⟨0,1,0,x,1,Hid.mk rfl,rfl,K0,K1,NX,K0,Hid.mk (L8 x),gk5,gz5,gx5,gp,hK5⟩
 case round =>
  clear gk5 gz5 gx5 gp hK5;obtain⟨j,X,Z,V,W,HJ,rfl,nX,nZ,nV,nW,HQ,gk,gz,gx,gp,hK⟩:=hrel;have hj255:j≤255:=by have:=HJ.out;omega
  by_cases hj:j<255
  ·go_wp2_with fail
   refine Ai (En w) wr.heap.size
    [(bp,⟨Ey (Q4 X Z V W) 136,[(7,RGo (Qd.step kN (ofI x) (N.toNat.testBit (254-j)) (QI X Z V W)))]⟩),(w.heap.size,AN (BA N) 22),(bx,AN (BA x) 22),((w.heap.size+1+1),AN (BA 0) 22)]
    [kv (.agg (Q4 X Z V W)),kv (.agg (BA N)),kv (.int .i64 (j:Int)),kv (.int .i64 (254-(j:Int))),kv (.int .u8 (bI (N.toNat.testBit (254-j)))),kv (.agg (BA x)),.val (RG (Qd.step kN (ofI x) (N.toNat.testBit (254-j)) (QI X Z V W))),.val fun _=>True]
    [.none,.none,.none,.none,.none,.none,.none,.base 0 1]
    [some 24,some 25,some 26,some 27,some 28,some 29,some 30,none]
    [(2,.pointer (some ⟨w.heap.size,0,none⟩)),(5,.pointer (some ⟨bx,0,none⟩)),(6,.pointer (some ⟨bp,0,none⟩)),(7,.int .i64 (j:Int))]
    [[.base 0 0],[.base 1 0],[],[.slot 2],[.slot 1,.slot 3],[.base 2 0],[.slot 0,.slot 4,.slot 5],[.base 0 0,.slot 6]]
    [.base 0 1,.base 1 0,.base 2 0,.base 3 0] [24,25,26,27,28,29,30]
    rfl (by kernel_rfl) ⟨rfl,rfl,rfl,rfl,trivial⟩ (Cn hK) (Ac4 _) ⟨⟨Aa gp,Ao gp⟩,⟨Aa gk,Ao gk⟩,⟨Aa gx,Ao gx⟩,⟨Aa gz,Ao gz⟩,trivial⟩ ⟨⟨(show (bp:Nat)≠w.heap.size from by omega),(show (bp:Nat)≠bx from by omega),(show (bp:Nat)≠(w.heap.size+1+1) from by omega),trivial⟩,⟨trivial,trivial,trivial⟩,⟨trivial,trivial⟩,trivial,trivial⟩ (Ev hz hK.1.size ⟨by omega,by omega,by omega,by omega,trivial⟩)
    ⟨
     sL fun f k=>sV (LA rfl f.2.2.1 (Ak k.1)),
     sL fun f k=>sV (BX rfl f.1 (Ak k.1)),
     sL fun f _=>.inl ⟨trivial,fun K hK=>AR (Ab _ rfl) (hK _ _ ⟨Touch.refl _ _,f.2.2.2.1⟩)⟩,
     sL fun _ k=>sV (Po rfl k.1 hj255),
     (fun _ _ ww _ _ _ _ kn=>.inl ⟨trivial,fun K hK=>L9 QG rfl kn.1 kn.2.1 (Um N j ww NN.1 hj) (fun w' hb=>hK _ _ ⟨Ad hb,rfl⟩)⟩),
     sL fun f k=>sV (BX rfl f.2.1 (Ak k.1)),
     (fun _ _ ww _ hS _ _ kn=>.inl ⟨trivial,fun K hK=>AaO Un rfl kn.1 kn.2.1 kn.2.2.1 (Z0 x _ _ _ (AbS X Z V W nX nZ nV nW) ww hS.2 NX) (fun v w' hp hb=>hK _ _ ⟨Ad hb,hp⟩)⟩),
     sL fun f k=>.inl ⟨trivial,fun K hK=>Xn rfl f.2.2.1 k.2.1 (Ak k.1) (fun w2 hg ho=>hK _ _ ⟨⟨Ag ho,hg⟩,trivial⟩)⟩,
     trivial⟩ ?_
   intro vs8 own8 v6 hK6 hs6 kn inj;obtain⟨ob,gp6,X',Z',V',W',rfl,nX',nZ',nV',nW',hQ'⟩:=kn.1;have gk6:=Ak kn.2.1;have gx6:=Ak kn.2.2.1;have gz6:=Ak kn.2.2.2.1;have HQ2:Hid (QI X' Z' V' W'=Qd.run kN (ofI x) (Fl N.toNat (j+1)) (Qd.start (ofI x))):=Hid.mk (by rw[IP,Pi,←HQ.out];exact hQ');clear hQ' HQ kn inj gk gz gx gp hK;simp only[Ap,Act.put,Ac6,Ac7,Ac5];go_wp2
   go_roundg (255-(j+1))
   case rel=>exact⟨j+1,X',Z',V',W',Hid.mk (by omega),by go_num,nX',nZ',nV',nW',HQ2,gk6,gz6,gx6,gp6,hK6⟩
   case measure=>have:=HJ.out;omega
  ·have hj2:j=255:=by omega
   subst hj2
   have HE:Hid ((X*Fe Z)%P255=tN k u):=Hid.mk (RX k u X Z V W (by
    have e:ofI (u%W255)=ofI x:=ofI_eq.2 (by have:=HXE.out;have h2:=Int.emod_emod (u%W255) P255;rw[this] at h2;rw[this,h2]);unfold IQ;rw[e,HN.out];exact HQ.out.symm))
   go_wp2_with fail;refine Ai (En w) wr.heap.size
    [(bp,AN (Q4 X Z V W) 136),((w.heap.size+1+1),once (BA 0) 22 7 (BA (tN k u)))]
    [kv (.pointer (some ⟨bp,0*32,none⟩)),kv (.agg (BA X)),kv (.pointer (some ⟨bp,1*32,none⟩)),kv (.agg (BA Z)),kv (.agg (BA (Fe Z))),ks 2 (BA X++BA (Fe Z)) 22,kv (.agg (BA (tN k u))),.val fun _=>True]
    [.none,.none,.none,.none,.none,.none,.none,.base 1 1]
    [some 32,some 33,some 34,some 35,some 36,some 37,some 38,none]
    [(4,.pointer (some ⟨(w.heap.size+1+1),0,none⟩)),(6,.pointer (some ⟨bp,0,none⟩))]
    [[],[.slot 0,.base 0 0],[],[.slot 2,.base 0 0],[.slot 3],[.slot 1,.slot 4],[.slot 5,.cont 5 0],[.base 1 0,.slot 6]]
    [.base 1 1] [32,33,34,35,36,37,38]
    rfl (by kernel_rfl) ⟨rfl,rfl,trivial⟩ (Cn hK) (Ac4 _) ⟨⟨Aa gp,Ao gp⟩,⟨Aa gz,Ao gz⟩,trivial⟩ ⟨⟨(show (bp:Nat)≠(w.heap.size+1+1) from by omega),trivial⟩,trivial,trivial⟩ (Ev hz hK.1.size ⟨by omega,by omega,trivial⟩)
    ⟨
     sL fun f _=>sV (Ec rfl f.2.1 (by decide)),
     sL fun _ k=>sV (Ht rfl k.1 (Cs (Ak k.2.1) (Xi X Z V W))),
     sL fun f _=>sV (Ec rfl f.2.1 (by decide)),
     sL fun _ k=>sV (Ht rfl k.1 (Cs (Ak k.2.1) (Km X Z V W))),
     (fun _ _ ww _ hS _ _ kn=>.inl ⟨trivial,fun K hK=>C6 Xj rfl kn.1 (Zs Z ww hS.2 nZ) (fun w' hb=>hK _ _ ⟨Ad hb,rfl⟩)⟩),
     sL fun _ k=>.inl ⟨trivial,fun K hK=>F9 rfl k.1 k.2.1 (fun v hg hb=>hK _ _ ⟨Ad hb,_,Ac4 _,rfl,Ao hg⟩)⟩,
     (fun _ _ ww _ _ _ _ kn=>.inl ⟨trivial,fun K hK=>C6 Dv rfl kn.1.1 (NP X (Fe Z) _ ww nX (Pc Z) (F6 (Ak kn.2.1)) kn.1.2.2) (fun w' hb=>hK _ _ ⟨Ad hb,(congrArg (fun n=>Value.agg (BA n)) HE.out)⟩)⟩),
     sL fun f k=>.inl ⟨trivial,fun K hK=>BZ rfl f.1 k.2.1 (Ak k.1) (fun w2 hg ho=>hK _ _ ⟨⟨Ag ho,Ao hg⟩,trivial⟩)⟩,
     trivial⟩ ?_
   intro vs8 own8 v6 hK6 hs6 kn inj;have gz6:=Ak kn.1;simp only[Ap,Act.put,Ac6,Ac7,Ac5];go_wp2;exact bodyPost_ret (v:=.agg (BA (tN k u))) (results_cell_row rfl _ _ _ _ _ _ _ rfl gz6 underlying22 rfl (by rw[Ah];exact Bk)) rfl ⟨rfl,hK6.1⟩
theorem DX {P:Program} {fn:Func} {p u:Tmp} {ty:TypeId} (h:fn.results=#[.cell p ty,.tmp u]) (tmps:Array Value) (w:World) (g:Nat) {v:Value}
  (hp:tmps.getD p undef=.pointer (some ⟨g,0,none⟩)) (hq:tmps.getD u undef=v) {t:TypeId} {fr:Nat×Nat} {d:TypeDesc} (cs:Array Value) (hg:w.heap[g]?=some (.cells cs t fr))
  (hi:(P.info? ty).map (·.size)=some cs.size) (hu:P.underlying ty=some d) (hd:(match d with | .struct _ | .array _ _=>true | _=>false)=true) :
  (results fn tmps).run P w=.ok (.tuple #[.agg cs,v]) w:=by
 have hp':tmps[p]?.getD undef=.pointer (some ⟨g,0,none⟩):=by simpa using hp
 have hq':tmps[u]?.getD undef=v:=by simpa using hq
 simp[results,h,hp',hq',asAddr,run_loadVar_row w g t ty cs fr d hg hu hd hi]
theorem Uo(args:Array Value)(w:World):(callFunc 57 args).run prog w=.ok (.enter 57 args) w:=by kernel_rfl
theorem of9:(9:Int)%P255=9:=by decide +kernel
theorem public_any(k:Int)(w:World)(hP:PrimeAt w)(Nk:N256 k):Calls prog 18 #[.agg (BA k)] w fun e w'=>e=.returned (.agg (BA (tN k 9)))∧Below w.heap.size w w':=by
 have hz:=Cp hP;have HP:=Hid.mk hP;clear hP;go_enter func18,ntmps18;go_wp2_with fail;refine AH (fun v0=>v0.heap[w.heap.size]?=some (.cells (BA k) 22 (0,0))∧v0.heap[w.heap.size+1]?=some (.cells (BA 0) 22 (0,0))∧En w v0)
  ⟨heap_alloc2_old w _ _,heap_alloc2_new w _ _,D3 hz ⟨Below.refl _ _,HP.out⟩ (by repeat first | exact Below.refl _ _ | refine Below.alloc ?_ (by simp<;>omega) _)⟩ ?_
 rintro v0 ⟨g1,g2,hK⟩;clear HP;refine Ai (En w) v0.heap.size
  [(w.heap.size,AN (BA k) 22),((w.heap.size+1),once (BA 0) 22 3 (BA (tN k 9)))]
  [kv (.agg (BA k)),kv (.agg (BA 9)),kv (.agg (BA (tN k 9))),.val fun _=>True]
  [.none,.none,.none,.base 1 1]
  [some 3,some 4,some 5,none]
  [(1,.pointer (some ⟨w.heap.size,0,none⟩)),(2,.pointer (some ⟨(w.heap.size+1),0,none⟩))]
  [[.base 0 0],[],[.slot 0,.slot 1],[.base 1 0,.slot 2]]
  [.base 1 1] [3,4,5]
  rfl (by kernel_rfl) ⟨rfl,rfl,trivial⟩ (Cn hK) (Ac4 _) ⟨⟨Aa g1,Ao g1⟩,⟨Aa g2,Ao g2⟩,trivial⟩ ⟨⟨(show (w.heap.size:Nat)≠(w.heap.size+1) from by omega),trivial⟩,trivial,trivial⟩ (Ev hz hK.1.size ⟨by omega,by omega,trivial⟩)
  ⟨
   sL fun f k=>sV (BX rfl f.1 (Ak k.1)),
   (fun _ _ ww _ hS _ _ _=>.inl ⟨trivial,fun K hK=>C6 IR rfl rfl (J3 9 ww hS.2 (by omega) (by omega)) (fun w' hb=>hK _ _ ⟨Ad hb,(congrArg (fun n=>Value.agg (BA n)) of9)⟩)⟩),
   (fun _ _ ww _ hS _ _ kn=>.inl ⟨trivial,fun K hK=>L9 Uo rfl kn.1 kn.2.1 (Pp k 9 ww hS.2 Nk) (fun w' hb=>hK _ _ ⟨Ad hb,rfl⟩)⟩),
   sL fun f k=>.inl ⟨trivial,fun K hK=>BZ rfl f.2.1 k.2.1 (Ak k.1) (fun w2 hg ho=>hK _ _ ⟨⟨Ag ho,Ao hg⟩,trivial⟩)⟩,
   trivial⟩ ?_
 intro vs own v1 hK1 hs1 kn inj;have g3:=Ak kn.1;simp only[Ap,Act.put,Ac6,Ac7,Ac5];go_wp2;exact bodyPost_ret (v:=.agg (BA (tN k 9))) (results_cell_row rfl _ _ _ _ _ _ _ rfl g3 underlying22 rfl (by rw[Ah];exact Bk)) rfl ⟨rfl,hK1.1⟩
theorem shared_any(k u:Int)(w:World)(hP:PrimeAt w)(hk:N256 k):Calls prog 118 #[.agg (BA k),.agg (BA u)] w fun e w'=>e=.returned (.tuple #[.agg (BA (tN k u)),.bool (!(tN k u==0))])∧Below w.heap.size w w':=by
 have hz:=Cp hP;have HP:=Hid.mk hP;clear hP;have HK:=Hid.mk hk;clear hk;go_enter func118,ntmps118
 go_wp2_with (first|(refine A7 rfl _ rfl w.heap.size (BA k) rfl (AA w _ _ _) (Ah _) ?_)|(refine A7 rfl _ rfl (w.heap.size+1) (BA u) rfl (AG w _ _ _) (Ah _) ?_))
 refine(Pp k u _ (CQ HP.out (B:=w.heap.size) (by repeat first | exact Below.refl _ _ | refine Below.alloc ?_ (by simp<;>omega) _) hz) HK.out).mono ?_;rintro e v1 ⟨rfl,hb1⟩;have gz:=Aj hb1 (AP w _ _ _) (by simp<;>omega)
 have hB:Below w.heap.size w v1:=by
  refine Below.trans ?_ (hb1.mono (by simp<;>omega))
  repeat first | exact Below.refl _ _ | refine Below.alloc ?_ (by simp<;>omega) _
 clear hb1;have Ns:=Xc k u;obtain⟨s,hs⟩:∃s,tN k u=s:=⟨_,rfl⟩;rw[hs] at Ns ⊢;have HS:=Hid.mk hs;clear hs
 go_wp2_with (refine Ba (by rfl) (by rfl) (heap_alloc_new v1 _) (by rfl) ?_;intro v2 g6 o2;refine Hid.out ?_)
 have hl:=Aa gz;replace gz:=(o2.block _ (Ac8 (Aa gz))).trans ((Below.heap_alloc v1 _ _ (Aa gz)).trans gz);replace hB:=Below.trans (hB.alloc hB.size _) (Only.below (b:=v1.heap.size) (B:=w.heap.size) o2 hB.size);clear o2;generalize v1.heap.size=b6 at *;have hK:En w v2:=D3 hz ⟨Below.refl _ _,HP.out⟩ hB;clear hB;refine Hid.mk ?_;go_wp2_with fail;refine Ai (En w) v2.heap.size
  [(b6,AN (BA s) 22),((w.heap.size+1+1),once (BA 0) 22 4 (BA s))]
  [kv (.agg (BA s)),kv (.agg (BA s)),kv (.agg (BA 0)),kv (.bool (!(s==0))),.val fun _=>True,kv (.bool (!(s==0)))]
  [.none,.none,.none,.none,.base 1 1]
  [some 10,some 11,some 12,some 13,none,some 5]
  [(4,.pointer (some ⟨(w.heap.size+1+1),0,none⟩)),(6,.pointer (some ⟨b6,0,none⟩))]
  [[.base 0 0],[.base 0 0],[],[.slot 1,.slot 2],[.base 1 0,.slot 0],[.slot 3]]
  [.slot 5,.base 1 1] [10,11,12,13,5]
  rfl (by kernel_rfl) ⟨rfl,rfl,trivial⟩ (Cn hK) (Ac4 _) ⟨⟨Aa g6,Ao g6⟩,⟨Aa gz,Ao gz⟩,trivial⟩ ⟨⟨(show (b6:Nat)≠(w.heap.size+1+1) from by omega),trivial⟩,trivial,trivial⟩ (Ev hz hK.1.size ⟨by omega,by omega,trivial⟩)
  ⟨
   sL fun f k=>sV (BX rfl f.2.1 (Ak k.1)),
   sL fun f k=>sV (BX rfl f.2.1 (Ak k.1)),
   sL fun _ _=>sV (JW rfl),
   sL fun _ k=>sV (MQ _ _ _ rfl s 0 k.1 k.2.1 Ns K1),
   sL fun f k=>.inl ⟨trivial,fun K hK=>BZ rfl f.1 k.2.1 (Ak k.1) (fun w2 hg ho=>hK _ _ ⟨⟨Ag ho,Ao hg⟩,trivial⟩)⟩,
   sL fun _ k=>.inl ⟨trivial,fun K hK=>AR (Az _ rfl) (hK _ _ ⟨Touch.refl _ _,k.1⟩)⟩,
   trivial⟩ ?_
 intro vs own v3 hK3 hs3 kn inj;have e5:vs 5=.bool (!(s==0)):=kn.1;have gz3:=Ak kn.2.1;clear kn inj;simp only[Ap,Act.put,Ac6,Ac7,Ac5,e5];go_wp2;exact bodyPost_ret (v:=.tuple #[.agg (BA s),.bool (!(s==0))]) (DX (v:=.bool (!(s==0))) (p:=4) (u:=5) rfl _ _ _ (by rfl) (by rfl) _ gz3 (by rw[Ah];exact Bk) underlying22 rfl) rfl ⟨by rw[HS.out],hK3.1⟩
theorem rshared_any(k u:Int)(w:World)(hk:N256 k):Calls prog 42 #[.agg (BA k),.agg (BA u)] w fun e w'=>e=.returned (.tuple #[.agg (BA (tN k u)),.bool (!(tN k u==0))])∧Below w.heap.size w w':=by
 have HK:=Hid.mk hk;clear hk;go_enter func42,ntmps42
 go_wp2_with (first|(refine A7 rfl _ rfl w.heap.size (BA k) rfl (AA w _ _ _) (Ah _) ?_)|(refine A7 rfl _ rfl (w.heap.size+1) (BA u) rfl (AG w _ _ _) (Ah _) ?_))
 refine(MP k u _ HK.out).mono ?_;rintro e v1 ⟨rfl,hb1⟩;have gz:=Aj hb1 (AP w _ _ _) (by simp<;>omega)
 have hB:Below w.heap.size w v1:=by
  refine Below.trans ?_ (hb1.mono (by simp<;>omega))
  repeat first | exact Below.refl _ _ | refine Below.alloc ?_ (by simp<;>omega) _
 clear hb1;have Ns:=Xc k u;obtain⟨s,hs⟩:∃s,tN k u=s:=⟨_,rfl⟩;rw[hs] at Ns ⊢;have HS:=Hid.mk hs;clear hs
 go_wp2_with (refine Ba (by rfl) (by rfl) (heap_alloc_new v1 _) (by rfl) ?_;intro v2 g6 o2;refine Hid.out ?_)
 have hl:=Aa gz;replace gz:=(o2.block _ (Ac8 (Aa gz))).trans ((Below.heap_alloc v1 _ _ (Aa gz)).trans gz);replace hB:=Below.trans (hB.alloc hB.size _) (Only.below (b:=v1.heap.size) (B:=w.heap.size) o2 hB.size);clear o2;generalize v1.heap.size=b6 at *;have hK:=hB;clear hB;refine Hid.mk ?_;go_wp2_with fail;refine Ai (Below w.heap.size w) v2.heap.size
  [(b6,AN (BA s) 22),((w.heap.size+1+1),once (BA 0) 22 4 (BA s))]
  [kv (.agg (BA s)),kv (.agg (BA s)),kv (.agg (BA 0)),kv (.bool (!(s==0))),.val fun _=>True,kv (.bool (!(s==0)))]
  [.none,.none,.none,.none,.base 1 1]
  [some 10,some 11,some 12,some 13,none,some 5]
  [(4,.pointer (some ⟨(w.heap.size+1+1),0,none⟩)),(6,.pointer (some ⟨b6,0,none⟩))]
  [[.base 0 0],[.base 0 0],[],[.slot 1,.slot 2],[.base 1 0,.slot 0],[.slot 3]]
  [.slot 5,.base 1 1] [10,11,12,13,5]
  rfl (by kernel_rfl) ⟨rfl,rfl,trivial⟩ (Below.drew hK) (Ac4 _) ⟨⟨Aa g6,Ao g6⟩,⟨Aa gz,Ao gz⟩,trivial⟩ ⟨⟨(show (b6:Nat)≠(w.heap.size+1+1) from by omega),trivial⟩,trivial,trivial⟩ (A6 hK.size ⟨by omega,by omega,trivial⟩)
  ⟨
   sL fun f k=>sV (BX rfl f.2.1 (Ak k.1)),
   sL fun f k=>sV (BX rfl f.2.1 (Ak k.1)),
   sL fun _ _=>sV (JW rfl),
   sL fun _ k=>sV (MQ _ _ _ rfl s 0 k.1 k.2.1 Ns K1),
   sL fun f k=>.inl ⟨trivial,fun K hK=>BZ rfl f.1 k.2.1 (Ak k.1) (fun w2 hg ho=>hK _ _ ⟨⟨Ag ho,Ao hg⟩,trivial⟩)⟩,
   sL fun _ k=>.inl ⟨trivial,fun K hK=>AR (Az _ rfl) (hK _ _ ⟨Touch.refl _ _,k.1⟩)⟩,
   trivial⟩ ?_
 intro vs own v3 hK3 hs3 kn inj;have e5:vs 5=.bool (!(s==0)):=kn.1;have gz3:=Ak kn.2.1;clear kn inj;simp only[Ap,Act.put,Ac6,Ac7,Ac5,e5];go_wp2;exact bodyPost_ret (v:=.tuple #[.agg (BA s),.bool (!(s==0))]) (DX (v:=.bool (!(s==0))) (p:=4) (u:=5) rfl _ _ _ (by rfl) (by rfl) _ gz3 (by rw[Ah];exact Bk) underlying22 rfl) rfl ⟨by rw[HS.out],hK3⟩
end Go.Proofs.YthghcjepdhkfdaaGreatDoor.Fld
namespace Go.Proofs.YthghcjepdhkfdaaGreatDoor
open Go.RowKit Go.Proofs
open Tryz
theorem Pq{s:Nat→Int}:∀{n:Nat},Byts n s→∀j,j<n→AJ (dval s n) j=s j
 | 0,_,j,hj=>by omega
 | n+1,h,j,hj=>by
  have hb:Byts n s:=fun i hi=>h i (by omega)
  have hn:=h n (by omega);unfold dval AJ
  by_cases e:j=n
  ·subst e
   have h0:=Bt (s:=s) (n:=j) (fun i hi=>(hb i hi).1);have h1:=GY (s:=s) (n:=j) hb;rw[Adp _ _ (by have:(0:Int)<256 ^ j:=Int.pow_pos (by omega);omega),Int.ediv_eq_zero_of_lt h0 h1];omega
  ·obtain⟨d,hd⟩:∃d,n=j+1+d:=⟨n-(j+1),by omega⟩
   have ih:=Pq hb j (by omega);unfold AJ at ih;have hp:(0:Int)<256 ^ j:=Int.pow_pos (by omega)
   have e2:dval s n+256 ^ n*s n=dval s n+256 ^ j*(256*(256 ^ d*s n)):=by
    rw[hd,AcO,AcF];simp only[AcC]
   rw[e2,Adp _ _ (by omega),←ih];omega
def nm(s:Nat→Int):Int:=dval s 32
theorem Z2{s:Nat→Int}(h:Byts 32 s):Fld.N256 (nm s):=
 ⟨Bt (fun i hi=>(h i hi).1),GY h⟩
theorem LG(m:Int):Fld.BA m=WA .u8 32 (AJ m):=rfl
theorem MT{s:Nat→Int}(h:Byts 32 s):Fld.BA (nm s)=WA .u8 32 s:=by
 rw[LG];exact K9 (Pq h)
def BV(k:Nat→Int):Nat→Int:=AJ (Fld.tN (nm k) 9)
def shF(k u:Nat→Int):Nat→Int:=AJ (Fld.tN (nm k) (nm u))
def shZ(k u:Nat→Int):Bool:=!(Fld.tN (nm k) (nm u)==0)
theorem Iq(k:Nat→Int)(n:Nat):Byts n (BV k):=fun i _=>Es _ i
theorem MU(k u:Nat→Int)(n:Nat):Byts n (shF k u):=fun i _=>Es _ i
theorem Ps(k:Nat→Int)(w:World)(hk:Byts 32 k):Calls prog 39 #[.agg (WA .u8 32 k)] w fun e w'=>e=.returned (.agg (WA .u8 32 (BV k)))∧Below w.heap.size w w':=by
 have h:=Fld.rpublic_any (nm k) w (Z2 hk);rw[MT hk,LG] at h;exact h
theorem Fo(k u:Nat→Int)(w:World)(hk:Byts 32 k)(hu:Byts 32 u):Calls prog 42 #[.agg (WA .u8 32 k),.agg (WA .u8 32 u)] w fun e w'=>e=.returned (.tuple #[.agg (WA .u8 32 (shF k u)),.bool (shZ k u)])∧Below w.heap.size w w':=by
 have h:=Fld.rshared_any (nm k) (nm u) w (Z2 hk);rw[MT hk,MT hu,LG] at h;exact h
theorem Ir(k:Nat→Int)(w:World)(hP:Fld.PrimeAt w)(hk:Byts 32 k):Calls prog 18 #[.agg (WA .u8 32 k)] w fun e w'=>e=.returned (.agg (WA .u8 32 (BV k)))∧Below w.heap.size w w':=by
 have h:=Fld.public_any (nm k) w hP (Z2 hk);rw[MT hk,LG] at h;exact h
theorem Is(k u:Nat→Int)(w:World)(hP:Fld.PrimeAt w)(hk:Byts 32 k)(hu:Byts 32 u):Calls prog 118 #[.agg (WA .u8 32 k),.agg (WA .u8 32 u)] w fun e w'=>e=.returned (.tuple #[.agg (WA .u8 32 (shF k u)),.bool (shZ k u)])∧Below w.heap.size w w':=by
 have h:=Fld.shared_any (nm k) (nm u) w hP (Z2 hk);rw[MT hk,MT hu,LG] at h;exact h
def A3(n:Int):ByteArray:=mkS 4 (AJ n)
theorem BW(n:Int):(A3 n).size=4:=At _ _
theorem MV(n:Int)(w:World)(hn:W32 n):Calls prog 44 #[.int .u32 n] w fun e w'=>e=.returned (.string (A3 n))∧Below w.heap.size w w':=by
 have g0:ArrAt (w.alloc (.cells #[.int .u8 (n%256),.int .u8 (n/256%256),.int .u8 (n/65536%256),.int .u8 (n/16777216)] 5)) w.heap.size .u8 5 4 (AJ n):=by
  have h:=heap_alloc_new w (.cells #[.int .u8 (n%256),.int .u8 (n/256%256),.int .u8 (n/65536%256),.int .u8 (n/16777216)] 5);unfold ArrAt
  have e:(WA .u8 4 (AJ n))=#[.int .u8 (n%256),.int .u8 (n/256%256),.int .u8 (n/65536%256),.int .u8 (n/16777216)]:=by
   have e3:n/16777216%256=n/16777216:=by unfold W32 at hn;omega
   have e0:AJ n 0=n%256:=by unfold AJ;rw[Int.pow_zero,Int.ediv_one]
   have e1:AJ n 1=n/256%256:=rfl;have e2:AJ n 2=n/65536%256:=rfl;have e4:AJ n 3=n/16777216:=by rw[←e3];rfl
   show #[Value.int .u8 (AJ n 0),Value.int .u8 (AJ n 1),Value.int .u8 (AJ n 2),Value.int .u8 (AJ n 3)]=_;rw[e0,e1,e2,e4]
  rw[e];exact h
 have hcv:=AB 4 w.heap.size 4 _ 4 (AJ n) g0.row (fun j _=>Es n j) rfl;have hB:Below w.heap.size w (w.alloc (.cells #[.int .u8 (n%256),.int .u8 (n/256%256),.int .u8 (n/65536%256),.int .u8 (n/16777216)] 5)):=(Below.refl _ w).alloc (Ac4 _) _;unfold W32 at hn;go_enter func44,ntmps44;go_wp2_with fail
 go_ret
 exact⟨rfl,hB⟩
def Hm(s:ByteArray):Int:=txt s 0+txt s 1*256+txt s 2*65536+txt s 3*16777216
theorem Pt(s:ByteArray)(w:World)(hs:s.size=4):Calls prog 49 #[.string s] w fun e w'=>e=.returned (.int .u32 (Hm s))∧Below w.heap.size w w':=by
 have i0:0<s.size:=by omega
 have i1:1<s.size:=by omega
 have i2:2<s.size:=by omega
 have i3:3<s.size:=by omega
 have b0:=B5 s 0;have b1:=B5 s 1;have b2:=B5 s 2;have b3:=B5 s 3;have t0:=Cz i0;have t1:=Cz i1;have t2:=Cz i2;have t3:=Cz i3;have HN:Hid (txt s 0+txt s 1*256+txt s 2*65536+txt s 3*16777216=Hm s):=Hid.mk rfl;generalize Hm s=z at *;generalize txt s 0=x0 at *;generalize txt s 1=x1 at *;generalize txt s 2=x2 at *;generalize txt s 3=x3 at *;go_enter func49,ntmps49;go_wp2_with fail
 go_region
 go_wp2_with fail
 go_ret
 exact⟨by rw[←HN.out];rfl,(Below.refl _ _).drew⟩
def Hn(C:Nat→Int)(e:ByteArray)(o t s:Nat→Int):Nat→Nat→Int:=chn (chn (chn (chn C e 0) (mkS 32 o) 0) (mkS 32 t) 0) (mkS 32 s)
def Ml(H C:Nat→Int)(e:ByteArray)(o t s:Nat→Int):Nat→Int:=Dk (Dk H e) (mkS 32 (Hn C e o t s 1))
theorem Oe(C:Nat→Int)(e:ByteArray)(o t s:Nat→Int)(i n:Nat):Byts n (Hn C e o t s i):=Ex _ _ i n
theorem Xo(H C:Nat→Int)(e:ByteArray)(o t s:Nat→Int)(n:Nat):Byts n (Ml H C e o t s):=EX _ _ n
section
variable {b:Nat} {w w':World}
theorem RowsAt.touch{B n a:Nat}{F:Nat→Nat→Int}(h:RowsAt w B n a F)(t:Touch (fun x=>x=b) w w')(hb:B≠b):RowsAt w' B n a F:=h.block (t.block B h.lt hb)
theorem Touch.onl{P:Nat→Prop}{v:World}{B:Nat}(t:Touch P w v)(o:Only B v w')(hB:w.heap.size≤B):Touch P w w':=⟨o.os.trans t.os,o.tape.trans t.tape,o.output.trans t.output,by rw[o.size];exact t.size,fun k hk hn=>(o.block k (by omega)).trans (t.block k hk hn)⟩
theorem ArrAt.tou{g n:Nat}{k:IntKind}{ty:TypeId}{s:Nat→Int}(h:ArrAt w g k ty n s)(t:Touch (fun x=>x=b) w w')(hb:g≠b):ArrAt w' g k ty n s:=h.block (t.block g h.lt hb)
end
theorem Up(b:Nat)(H C:Nat→Int)(e:ByteArray)(o t s C1 H1 C2 C3:Nat→Int)(L:Nat→Nat→Int)(H2:Nat→Int)(w:World)(g:StAt w b H C)(ho:Byts 32 o)(ht:Byts 32 t)(hs:Byts 32 s)(hL:Byts 32 (L 1))(k1:∀u,StAt u b H C→Calls prog 40 #[.pointer (some ⟨b,0,none⟩),.int .i64 1,.string e] u fun x w'=>∃v,x=.returned v∧StAt w' b H C1∧Touch (fun x=>x=b) u w')(k2:∀u,StAt u b H C1→Calls prog 41 #[.pointer (some ⟨b,0,none⟩),.string e] u fun x w'=>x=.returned (.tuple #[])∧StAt w' b H1 C1∧Touch (fun x=>x=b) u w')(k3:∀u,StAt u b H1 C1→Calls prog 40 #[.pointer (some ⟨b,0,none⟩),.int .i64 1,.string (mkS 32 o)] u fun x w'=>∃v,x=.returned v∧StAt w' b H1 C2∧Touch (fun x=>x=b) u w')(k4:∀u,StAt u b H1 C2→Calls prog 40 #[.pointer (some ⟨b,0,none⟩),.int .i64 1,.string (mkS 32 t)] u fun x w'=>∃v,x=.returned v∧StAt w' b H1 C3∧Touch (fun x=>x=b) u w')(k5:∀u,StAt u b H1 C3→Calls prog 40 #[.pointer (some ⟨b,0,none⟩),.int .i64 3,.string (mkS 32 s)] u fun x w'=>∃gl cl,x=.returned (.slice (some ⟨gl,0,none⟩) 3 cl)∧u.heap.size≤gl∧RowsAt w' gl 3 0 L∧StAt w' b H1 (L 0)∧Touch (fun x=>x=b) u w')(k6:∀u,StAt u b H1 (L 0)→Calls prog 41 #[.pointer (some ⟨b,0,none⟩),.string (mkS 32 (L 1))] u fun x w'=>x=.returned (.tuple #[])∧StAt w' b H2 (L 0)∧Touch (fun x=>x=b) u w'):Calls prog 52 #[.pointer (some ⟨b,0,none⟩),.string e,.agg (WA .u8 32 o),.agg (WA .u8 32 t),.agg (WA .u8 32 s)] w fun x w'=>x=.returned (.agg (WA .u8 32 (L 2)))∧StAt w' b H2 (L 0)∧Touch (fun x=>x=b) w w':=by
 have hbw:=g.lt;have g0:ArrAt ((((w.alloc (.cells (WA .u8 32 o) 22)).alloc (.cells (WA .u8 32 t) 22)).alloc (.cells (WA .u8 32 s) 22)).alloc (.cells (WA .u8 32 fun _=>0) 22)) w.heap.size .u8 22 32 o:=Ix w _ _ _ _;have g1:ArrAt ((((w.alloc (.cells (WA .u8 32 o) 22)).alloc (.cells (WA .u8 32 t) 22)).alloc (.cells (WA .u8 32 s) 22)).alloc (.cells (WA .u8 32 fun _=>0) 22)) (w.heap.size+1) .u8 22 32 t:=Iy w _ _ _ _;have g2:ArrAt ((((w.alloc (.cells (WA .u8 32 o) 22)).alloc (.cells (WA .u8 32 t) 22)).alloc (.cells (WA .u8 32 s) 22)).alloc (.cells (WA .u8 32 fun _=>0) 22)) (w.heap.size+1+1) .u8 22 32 s:=Iz w _ _ _ _;have g3:ArrAt ((((w.alloc (.cells (WA .u8 32 o) 22)).alloc (.cells (WA .u8 32 t) 22)).alloc (.cells (WA .u8 32 s) 22)).alloc (.cells (WA .u8 32 fun _=>0) 22)) (w.heap.size+1+1+1) .u8 22 32 (fun _=>0):=E4 w _ _ _ _;have hB:Below w.heap.size w ((((w.alloc (.cells (WA .u8 32 o) 22)).alloc (.cells (WA .u8 32 t) 22)).alloc (.cells (WA .u8 32 s) 22)).alloc (.cells (WA .u8 32 fun _=>0) 22)):=((((Below.refl _ w).alloc (by simp) _).alloc (by simp) _).alloc (by simp;omega) _).alloc (by simp;omega) _;replace g:=g.kept hB;have hT:=CZ b hB;clear hB;go_enter func52,ntmps52;go_wp2_with fail;refine(k1 _ g).mono ?_;rintro x v1 ⟨r1,rfl,g',t1⟩;replace g0:=g0.tou t1 (by omega);replace g1:=g1.tou t1 (by omega);replace g2:=g2.tou t1 (by omega);replace g3:=g3.tou t1 (by omega);replace hT:=hT.trans t1;clear g t1 k1;go_wp2_with fail;refine(k2 _ g').mono ?_;rintro x v2 ⟨rfl,g,t1⟩;replace g0:=g0.tou t1 (by omega);replace g1:=g1.tou t1 (by omega);replace g2:=g2.tou t1 (by omega);replace g3:=g3.tou t1 (by omega);replace hT:=hT.trans t1;clear g' t1 k2
 go_wp2_with (refine Aq Af g0 (by rfl) ?_)
 refine(DA o _ ho).mono ?_;rintro x v3 ⟨rfl,hb⟩;replace g:=g.kept hb;replace g1:=g1.kept hb;replace g2:=g2.kept hb;replace g3:=g3.kept hb;replace hT:=hT.trans (CZ b hb);clear hb g0;go_wp2_with fail;refine(k3 _ g).mono ?_;rintro x v4 ⟨r4,rfl,g',t1⟩;replace g1:=g1.tou t1 (by omega);replace g2:=g2.tou t1 (by omega);replace g3:=g3.tou t1 (by omega);replace hT:=hT.trans t1;clear g t1 k3
 go_wp2_with (refine Aq Af g1 (by rfl) ?_)
 refine(DA t _ ht).mono ?_;rintro x v5 ⟨rfl,hb⟩;replace g':=g'.kept hb;replace g2:=g2.kept hb;replace g3:=g3.kept hb;replace hT:=hT.trans (CZ b hb);clear hb g1;go_wp2_with fail;refine(k4 _ g').mono ?_;rintro x v6 ⟨r6,rfl,g,t1⟩;replace g2:=g2.tou t1 (by omega);replace g3:=g3.tou t1 (by omega);replace hT:=hT.trans t1;clear g' t1 k4
 go_wp2_with (refine Aq Af g2 (by rfl) ?_)
 refine(DA s _ hs).mono ?_;rintro x v7 ⟨rfl,hb⟩;replace g:=g.kept hb;replace g3:=g3.kept hb;replace hT:=hT.trans (CZ b hb);clear hb g2;go_wp2_with fail;have h7:=hT.size;refine(k5 _ g).mono ?_;rintro x v8 ⟨gl,cl,rfl,hgl,rL,g',t1⟩;have h3:=g3.lt;replace g3:=g3.tou t1 (by omega);replace hT:=hT.trans t1;have hr1:=rL.range (Nat.zero_le 1) (by omega);clear g t1 k5
 go_wp2_with (first|(refine Ae rfl (Bx (i:=1) rfl (by rfl) (by rfl) (by omega)) ?_)|(refine Ae rfl (Al rfl Af (by rfl) hr1) ?_))
 refine(DA (L 1) _ hL).mono ?_;rintro x v9 ⟨rfl,hb⟩;replace g':=g'.kept hb;replace g3:=g3.kept hb;replace rL:=rL.kept hb;replace hT:=hT.trans (CZ b hb);clear hb hr1;go_wp2_with fail;refine(k6 _ g').mono ?_;rintro x v10 ⟨rfl,g,t1⟩;replace rL:=rL.touch t1 (by omega);replace g3:=g3.tou t1 (by omega);replace hT:=hT.trans t1;clear g' t1 k6;have hr2:=rL.range (Nat.zero_le 2) (by omega)
 go_wp2_with (first|(refine Ae rfl (Bx (i:=2) rfl (by rfl) (by rfl) (by omega)) ?_)|(refine Ae rfl (Al rfl Af (by rfl) hr2) ?_)|(refine A0 Af g3 (by rfl) (by rfl) ?_;intro v11 g11 o11;refine Hid.out ?_))
 refine Hid.mk ?_;go_wp2_with fail;refine bodyPost_ret (AC results52 Af g11 (by rfl)) rfl ⟨rfl,?_,?_⟩
 ·exact g.block (o11.block b (by omega))
 ·exact hT.onl o11 (by omega)
theorem MW(b:Nat)(H C:Nat→Int)(e:ByteArray)(o t s:Nat→Int)(w:World)(g:StAt w b H C)(hH:Byts 32 H)(hC:Byts 32 C)(ho:Byts 32 o)(ht:Byts 32 t)(hs:Byts 32 s)(he:e.size≤140737488355328):Calls prog 52 #[.pointer (some ⟨b,0,none⟩),.string e,.agg (WA .u8 32 o),.agg (WA .u8 32 t),.agg (WA .u8 32 s)] w fun x w'=>x=.returned (.agg (WA .u8 32 (Hn C e o t s 2)))∧StAt w' b (Ml H C e o t s) (Hn C e o t s 0)∧Touch (fun x=>x=b) w w':=by
 have hz:∀z:Nat→Int,(mkS 32 z).size≤140737488355328:=fun z=>by rw[At];omega
 refine Up b H C e o t s (chn C e 0) (Dk H e) (chn (chn C e 0) (mkS 32 o) 0) (chn (chn (chn C e 0) (mkS 32 o) 0) (mkS 32 t) 0) (Hn C e o t s) (Ml H C e o t s) w g ho ht hs (Oe _ _ _ _ _ 1 32) ?_ ?_ ?_ ?_ ?_ ?_
 ·exact fun u gu=>(Fk b 1 H C e u gu hC he (by omega) (by omega)).mono (fun x w' ⟨gl,cl,h1,_,_,h4,h5⟩=>⟨_,h1,h4,h5⟩)
 ·exact fun u gu=>Hb b H _ e u gu hH (by omega)
 ·exact fun u gu=>(Fk b 1 _ _ (mkS 32 o) u gu (Ex _ _ 0 32) (hz o) (by omega) (by omega)).mono (fun x w' ⟨gl,cl,h1,_,_,h4,h5⟩=>⟨_,h1,h4,h5⟩)
 ·exact fun u gu=>(Fk b 1 _ _ (mkS 32 t) u gu (Ex _ _ 0 32) (hz t) (by omega) (by omega)).mono (fun x w' ⟨gl,cl,h1,_,_,h4,h5⟩=>⟨_,h1,h4,h5⟩)
 ·exact fun u gu=>Fk b 3 _ _ (mkS 32 s) u gu (Ex _ _ 0 32) (hz s) (by omega) (by omega)
 ·exact fun u gu=>Hb b _ _ (mkS 32 (Hn C e o t s 1)) u gu (EX _ _ 32) (by have:=hz (Hn C e o t s 1);omega)
theorem Uq(key nonce:Nat→Int)(box beside:ByteArray):(Cg key nonce box beside).2=0∨Cg key nonce box beside=(⟨#[]⟩,13):=by
 unfold Cg
 split
 ·exact .inl rfl
 ·exact .inr rfl
def SC(n:Nat)(V:Nat→Value):Array Value:=((AcA n).map V).toArray
theorem CH(n:Nat)(V:Nat→Value):(SC n V).size=n:=by simp[SC]
theorem Of(n:Nat)(V:Nat→Value)(i:Nat)(h:i<n):(SC n V)[i]?=some (V i):=by simp[SC,h]
theorem Xp{n:Nat}{V:Nat→Value}(h:∀i,(V i).oneCell'=true):(SC n V).all (·.oneCell')=true:=by
 rw[Array.all_eq_true_iff_forall_mem];intro v hv;simp only[SC,List.mem_toArray,List.mem_map] at hv;obtain⟨i,_,rfl⟩:=hv;exact h i
def Ko(ty n:Nat):Prop:=∃d,Tryz.prog.underlying ty=some d∧(match d with | .struct _ | .array _ _=>true | _=>false)=true∧(Tryz.prog.info? ty).map (·.size)=some n
def SAt(w:World)(b:Nat)(ty:TypeId)(n:Nat)(V:Nat→Value):Prop:=w.heap[b]?=some (.cells (SC n V) ty (0,0))
section
variable {w w':World} {b n:Nat} {ty:TypeId} {V:Nat→Value}
theorem SAt.at(h:SAt w b ty n V)(i:Nat)(hi:i<n):w.cell? ⟨b,i,none⟩=some (V i):=by
 rw[cell_of_row w b i _ _ _ h,Of n V i hi]
theorem SAt.lt(h:SAt w b ty n V):b<w.heap.size:=Aa h
theorem SAt.block(h:SAt w b ty n V)(e:w'.heap[b]?=w.heap[b]?):SAt w' b ty n V:=e.trans h
theorem SAt.kept(h:SAt w b ty n V)(hb:Below w.heap.size w w'):SAt w' b ty n V:=h.block (hb.block b h.lt)
theorem SAt.only{g:Nat}(h:SAt w b ty n V)(ho:Only g w w')(hB:b≠g):SAt w' b ty n V:=h.block (ho.block b hB)
theorem SAt.tou{g:Nat}(h:SAt w b ty n V)(t:Touch (fun x=>x=g) w w')(hB:b≠g):SAt w' b ty n V:=h.block (t.block b h.lt hB)
theorem SAt.range{o m:Nat}{s:Nat→Int}(h:SAt w b ty n V)(hm:o+m≤n)(hv:∀j,j<m→V (o+j)=.int .u8 (s j)):w.rangeAt b o (A9 .u8 m s):=fun j v hj=>by
 obtain⟨hj2,rfl⟩:=B2 hj;rw[h.at (o+j) (by omega),hv j hj2]
end
theorem Dw{ops:Array Oper}{rest:List Oper}{d:Option Tmp}{x y:Operand}{t ty:TypeId}{ps:String}{af:Array Edge}{a:Act}{w:World}{Q:Exit→Act→World→Prop}{g n:Nat}{V V':Nat→Value}(hA:Ko ty n)(h1:∀i,(V i).oneCell'=true)(hg:SAt w g ty n V')(hx:a.eval x=.pointer (some ⟨g,0,none⟩))(hy:a.eval y=.agg (SC n V))(h:∀w2,SAt w2 g ty n V→Only g w w2→wpList prog ops Q rest (a.put d undef) w2):wpList prog ops Q ({ dst:=d,op:=.store ty x y,type:=t,pos:=ps,after:=af,guard:=none }::rest) a w:=by
 obtain⟨_,_,_,h3⟩:=hA;exact H6 rfl ty x y rfl g _ hx hy ty _ hg (by rw[CH];exact h3) (by rw[CH,CH]) (Xp h1) h
theorem BH{a:Act}{o:Oper}{w:World}{x:Operand}{ty:TypeId}{g n:Nat}{V:Nat→Value}(ho:o.op=.load ty x)(hA:Ko ty n)(hg:SAt w g ty n V)(hx:a.eval x=.pointer (some ⟨g,0,none⟩)):(execOp a.eval o).run prog w=.ok (.value (.agg (SC n V))) w:=by
 obtain⟨d,h1,h2,h3⟩:=hA;unfold execOp;simp only[ho,hx];have:=run_loadVar_row (P:=prog) w g ty ty (SC n V) (0,0) _ hg h1 (by cases d<;>first | rfl | exact h2) (by rw[CH];exact h3);simp[Instr.loadAt,Instr.sureAddr,this]
def AY(H C O R P:Nat→Int)(l f:Int)(i:Nat):Value:=if i<32 then .int .u8 (H i) else if i<64 then .int .u8 (C (i-32)) else if i<96 then .int .u8 (O (i-64)) else if i<128 then .int .u8 (R (i-96)) else if i<160 then .int .u8 (P (i-128)) else if i<161 then .int .u32 l else .int .u32 f
def DO:Nat→Value:=AY (fun _=>0) (fun _=>0) (fun _=>0) (fun _=>0) (fun _=>0) 0 0
theorem GH(H C O R P:Nat→Int)(l f:Int)(i:Nat):(AY H C O R P l f i).oneCell'=true:=by unfold AY;(repeat' split)<;>rfl
def Da(S R:Nat→Int)(l f:Int)(i:Nat):Value:=if i<32 then .int .u8 (S i) else if i<64 then .int .u8 (R (i-32)) else if i<65 then .int .u32 l else .int .u32 f
def CI:Nat→Value:=Da (fun _=>0) (fun _=>0) 0 0
theorem B8(S R:Nat→Int)(l f:Int)(i:Nat):(Da S R l f i).oneCell'=true:=by unfold Da;(repeat' split)<;>rfl
theorem C7:Ko 31 162:=⟨_,underlying31,rfl,by kernel_rfl⟩
theorem AW:Ko 41 66:=⟨_,underlying41,rfl,by kernel_rfl⟩
section
variable {w:World} {b:Nat} {H C O R P S:Nat→Int} {l f:Int}
theorem Xq(h:SAt w b 31 162 (AY H C O R P l f)):w.rangeAt b 0 (A9 .u8 32 H):=h.range (by omega) (fun j hj=>by unfold AY;rw[Ac9,if_pos hj])
theorem Xr(h:SAt w b 31 162 (AY H C O R P l f)):w.rangeAt b 32 (A9 .u8 32 C):=h.range (by omega) (fun j hj=>by unfold AY;rw[if_neg (by omega),if_pos (by omega),AcJ])
theorem Aac(h:SAt w b 31 162 (AY H C O R P l f)):w.rangeAt b 64 (A9 .u8 32 O):=h.range (by omega) (fun j hj=>by unfold AY;rw[if_neg (by omega),if_neg (by omega),if_pos (by omega),AcJ])
theorem Aad(h:SAt w b 31 162 (AY H C O R P l f)):w.rangeAt b 96 (A9 .u8 32 R):=h.range (by omega) (fun j hj=>by unfold AY;rw[if_neg (by omega),if_neg (by omega),if_neg (by omega),if_pos (by omega),AcJ])
theorem Aae(h:SAt w b 31 162 (AY H C O R P l f)):w.rangeAt b 128 (A9 .u8 32 P):=h.range (by omega) (fun j hj=>by unfold AY;rw[if_neg (by omega),if_neg (by omega),if_neg (by omega),if_neg (by omega),if_pos (by omega),AcJ])
theorem RZ(h:SAt w b 31 162 (AY H C O R P l f)):w.cell? ⟨b,160,none⟩=some (.int .u32 l):=h.at 160 (by omega)
theorem Sa(h:SAt w b 31 162 (AY H C O R P l f)):w.cell? ⟨b,161,none⟩=some (.int .u32 f):=h.at 161 (by omega)
end
theorem Xs(w:World):(Instr.build 41 #[]).run prog w=.ok (.agg (SC 66 CI)) w:=by kernel_rfl
theorem Z3(S R:Nat→Int)(l f:Int)(w:World):(Instr.build 41 #[(0,.agg (WA .u8 32 S)),(1,.agg (WA .u8 32 R)),(2,.int .u32 l),(3,.int .u32 f)]).run prog w=.ok (.agg (SC 66 (Da S R l f))) w:=by kernel_rfl
theorem Xt(H C O P:Nat→Int)(l:Int)(w:World):(Instr.build 31 #[(0,.agg (WA .u8 32 H)),(1,.agg (WA .u8 32 C)),(2,.agg (WA .u8 32 O)),(4,.agg (WA .u8 32 P)),(5,.int .u32 l)]).run prog w=.ok (.agg (SC 162 (AY H C O (fun _=>0) P l 0))) w:=by kernel_rfl
theorem Z4(H C:Nat→Int)(w:World):(Instr.build 84 #[(0,.agg (WA .u8 32 H)),(1,.agg (WA .u8 32 C))]).run prog w=.ok (.agg (WA .u8 64 (cat 32 H C))) w:=by kernel_rfl
theorem DB{a:Act}{o:Oper}{w:World}(ho:o.op=.build 41 #[]):(execOp a.eval o).run prog w=.ok (.value (.agg (SC 66 CI))) w:=by
 have h:=Xs w;unfold execOp;simp only[ho,AcH,AcD,Sem.run_bind,h,Result.andThen_ok,Sem.run_pure]
theorem IV{a:Act}{o:Oper}{w:World}{x y z u:Operand}(ho:o.op=.build 41 #[(0,x),(1,y),(2,z),(3,u)]){S R:Nat→Int}{l f:Int}(hx:a.eval x=.agg (WA .u8 32 S))(hy:a.eval y=.agg (WA .u8 32 R))(hz:a.eval z=.int .u32 l)(hu:a.eval u=.int .u32 f):(execOp a.eval o).run prog w=.ok (.value (.agg (SC 66 (Da S R l f)))) w:=by
 have h:=Z3 S R l f w;unfold execOp;simp only[ho,AcH,AcG,AcD,hx,hy,hz,hu,Sem.run_bind,h,Result.andThen_ok,Sem.run_pure]
theorem Ur{a:Act}{o:Oper}{w:World}{x y z u q:Operand}(ho:o.op=.build 31 #[(0,x),(1,y),(2,z),(4,u),(5,q)]){H C O P:Nat→Int}{l:Int}(hx:a.eval x=.agg (WA .u8 32 H))(hy:a.eval y=.agg (WA .u8 32 C))(hz:a.eval z=.agg (WA .u8 32 O))(hu:a.eval u=.agg (WA .u8 32 P))(hq:a.eval q=.int .u32 l):(execOp a.eval o).run prog w=.ok (.value (.agg (SC 162 (AY H C O (fun _=>0) P l 0)))) w:=by
 have h:=Xt H C O P l w;unfold execOp;simp only[ho,AcH,AcG,AcD,hx,hy,hz,hu,hq,Sem.run_bind,h,Result.andThen_ok,Sem.run_pure]
theorem Pu{a:Act}{o:Oper}{w:World}{x y:Operand}(ho:o.op=.build 84 #[(0,x),(1,y)]){H C:Nat→Int}(hx:a.eval x=.agg (WA .u8 32 H))(hy:a.eval y=.agg (WA .u8 32 C)):(execOp a.eval o).run prog w=.ok (.value (.agg (WA .u8 64 (cat 32 H C)))) w:=by
 have h:=Z4 H C w;unfold execOp;simp only[ho,AcH,AcG,AcD,hx,hy,Sem.run_bind,h,Result.andThen_ok,Sem.run_pure]
theorem LH(args:Array Value)(w:World):(callFunc 44 args).run prog w=.ok (.enter 44 args) w:=by kernel_rfl
theorem Fq{v0:World}{b:Nat}{c:Cont}(w w':World)(h:Touch (fun x=>x=b) v0 w)(ht:Touch (fun k=>v0.heap.size≤k∨k∈[(b,c)].map (·.1)) w w'):Touch (fun x=>x=b) v0 w':=
 ⟨ht.os.trans h.os,ht.tape.trans h.tape,ht.output.trans h.output,AcE h.size ht.size,fun k hk hn=>(ht.block k (by have:=h.size;omega) (fun e=>e.elim (fun e=>by omega) (fun e=>hn (by simpa using e)))).trans (h.block k hk hn)⟩
theorem AbT{f:FuncId}(hc:∀args w,(callFunc f args).run prog w=.ok (.enter f args) w){xs:Array Operand}{ts:Array TypeId}{o:Oper}{a:Act}{w:World}{K:Act→World→Prop}{Q:Exit→Act→World→Prop}(ho:o.op=.call { callee:=.value (.func f),args:=xs,argTypes:=ts }){vs:Array Value}{v:Value}{b:Nat}{H C:Nat→Int}(hx:xs.map a.eval=vs)(hC:Calls prog f vs w fun r w'=>r=.returned v∧StAt w' b H C∧Touch (fun x=>x=b) w w')(h:∀w',StAt w' b H C→Touch (fun x=>x=b) w w'→K (a.put o.dst v) w'):o.wp prog a w K Q:=
 JJ hc ho hx (hC.mono (fun e w' ⟨he,hb⟩=>⟨v,he,rfl,hb⟩)) (R:=fun u w'=>u=v∧StAt w' b H C∧Touch (fun x=>x=b) w w') (fun u w' ⟨hu,h1,h2⟩=>by subst hu;exact h w' h1 h2)
theorem Hf{fn:Func}{p q r:Tmp}{ty:TypeId}(h:fn.results=#[.tmp p,.cell q ty,.tmp r]){tmps:Array Value}{w:World}{g n:Nat}{V:Nat→Value}{x z:Value}(hA:Ko ty n)(hg:SAt w g ty n V)(hp:tmps.getD p undef=x)(hq:tmps.getD q undef=.pointer (some ⟨g,0,none⟩))(hr:tmps.getD r undef=z):(results fn tmps).run prog w=.ok (.tuple #[x,.agg (SC n V),z]) w:=by
 obtain⟨d,h1,h2,h3⟩:=hA;have hp':tmps[p]?.getD undef=x:=by simpa using hp
 have hq':tmps[q]?.getD undef=.pointer (some ⟨g,0,none⟩):=by simpa using hq
 have hr':tmps[r]?.getD undef=z:=by simpa using hr
 have:=run_loadVar_row (P:=prog) w g ty ty (SC n V) (0,0) _ hg h1 (by cases d<;>first | rfl | exact h2) (by rw[CH];exact h3);simp[results,h,hp',hq',hr',asAddr,this]
theorem FA:zeroCells31=SC 162 DO:=by kernel_rfl
theorem Ci{ops:Array Oper}{rest:List Oper}{d:Option Tmp}{t:TypeId}{ps:String}{af:Array Edge}{a:Act}{w:World}{Q:Exit→Act→World→Prop}(h:∀w',ArrAt w' w.heap.size .u8 22 32 (fun _=>0)→Below w.heap.size w w'→wpList prog ops Q rest (a.put d (.pointer (some ⟨w.heap.size,0,none⟩))) w'):wpList prog ops Q ({ dst:=d,op:=.alloc 22,type:=t,pos:=ps,after:=af,guard:=none }::rest) a w:=
 CF rfl (AU H8 rfl (fun w' hb hg=>h w' hg hb))
theorem Ed{o:Oper}{a:Act}{w:World}{K:Act→World→Prop}{Q:Exit→Act→World→Prop}{x y:Operand}{ty:TypeId}{g n:Nat}{V V':Nat→Value}(ho:o.op=.store ty x y)(hA:Ko ty n)(h1:∀i,(V i).oneCell'=true)(hx:a.eval x=.pointer (some ⟨g,0,none⟩))(hy:a.eval y=.agg (SC n V))(hg:SAt w g ty n V')(h:∀w2,SAt w2 g ty n V→Only g w w2→K (a.put o.dst undef) w2):o.wp prog a w K Q:=by
 obtain⟨_,_,_,h3⟩:=hA;have hrun:=run_storeVar_row (P:=prog) w g ty ty (SC n V') (SC n V) hg (by rw[CH];exact h3) (by rw[CH,CH]) (Xp h1);unfold Oper.wp execOp;simp only[ho,hx,hy,Instr.storeAt,Instr.sureAddr,Sem.run_bind,Sem.run_pure,Result.andThen_ok,hrun];exact h _ (setRow_heap w g (SC n V') (SC n V) ty (0,0) hg) (Cd w g _)
def AaP(P E C0:Nat→Int):Nat→Nat→Int:=chn (chn C0 (mkS 32 (BV E)) 0) (mkS 32 (shF E P))
def bgA(O P E H0 C0:Nat→Int):ByteArray:=Et (AaP P E C0 1) Cu (mkS 32 (BV O)) (mkS 32 (Dk H0 (mkS 32 (BV E))))
def AaQ(O P E C0:Nat→Int):Nat→Nat→Int:=chn (AaP P E C0 0) (mkS 32 (shF O P))
def AaR(O P E H0 C0:Nat→Int):Nat→Int:=Dk (Dk H0 (mkS 32 (BV E))) (bgA O P E H0 C0)
def bgB(O P E T H0 C0:Nat→Int):ByteArray:=Et (AaQ O P E C0 1) Cu (mkS 12 T) (mkS 32 (AaR O P E H0 C0))
def AbU(O P E T H0 C0:Nat→Int):Nat→Int:=Dk (AaR O P E H0 C0) (bgB O P E T H0 C0)
theorem Xu(t:Nat→Int)(n:Nat):Byts n (YV t):=EX _ _ n
def IW(s m:Nat→Int):Nat→Int:=
 Eg (Eg (Eg (Eg (Eg (Eg (Eg (Eg (s) 0 4 8 12 (m 0) (m 1)) 1 5 9 13 (m 2) (m 3)) 2 6 10 14 (m 4) (m 5)) 3 7 11 15 (m 6) (m 7)) 0 5 10 15 (m 8) (m 9)) 1 6 11 12 (m 10) (m 11)) 2 7 8 13 (m 12) (m 13)) 3 4 9 14 (m 14) (m 15)
theorem isW:CV 238 16:=⟨_,_,underlying238,by kernel_rfl⟩
theorem LI(m:Nat→Int)(k:Nat)(v:Nat→Int):Kl m k (I7 m k v 4) 4=IW v (fun j=>m (ord k j)):=by
 have e:Kl m k (I7 m k v 4) 4=Hj (Hj (Hj (Hj (Hj (Hj (Hj (Hj (v) 0 4 8 12 (m (ord k 0)) (m (ord k 1))) 1 5 9 13 (m (ord k 2)) (m (ord k 3))) 2 6 10 14 (m (ord k 4)) (m (ord k 5))) 3 7 11 15 (m (ord k 6)) (m (ord k 7))) 0 5 10 15 (m (ord k 8)) (m (ord k 9))) 1 6 11 12 (m (ord k 10)) (m (ord k 11))) 2 7 8 13 (m (ord k 12)) (m (ord k 13))) 3 4 9 14 (m (ord k 14)) (m (ord k 15)):=rfl;rw[e]
 simp only[Fi _ _ _ (show (0:Nat)≠4 by decide) (show (0:Nat)≠8 by decide) (show (0:Nat)≠12 by decide) (show (4:Nat)≠8 by decide) (show (4:Nat)≠12 by decide) (show (8:Nat)≠12 by decide),
  Fi _ _ _ (show (1:Nat)≠5 by decide) (show (1:Nat)≠9 by decide) (show (1:Nat)≠13 by decide) (show (5:Nat)≠9 by decide) (show (5:Nat)≠13 by decide) (show (9:Nat)≠13 by decide),
  Fi _ _ _ (show (2:Nat)≠6 by decide) (show (2:Nat)≠10 by decide) (show (2:Nat)≠14 by decide) (show (6:Nat)≠10 by decide) (show (6:Nat)≠14 by decide) (show (10:Nat)≠14 by decide),
  Fi _ _ _ (show (3:Nat)≠7 by decide) (show (3:Nat)≠11 by decide) (show (3:Nat)≠15 by decide) (show (7:Nat)≠11 by decide) (show (7:Nat)≠15 by decide) (show (11:Nat)≠15 by decide),
  Fi _ _ _ (show (0:Nat)≠5 by decide) (show (0:Nat)≠10 by decide) (show (0:Nat)≠15 by decide) (show (5:Nat)≠10 by decide) (show (5:Nat)≠15 by decide) (show (10:Nat)≠15 by decide),
  Fi _ _ _ (show (1:Nat)≠6 by decide) (show (1:Nat)≠11 by decide) (show (1:Nat)≠12 by decide) (show (6:Nat)≠11 by decide) (show (6:Nat)≠12 by decide) (show (11:Nat)≠12 by decide),
  Fi _ _ _ (show (2:Nat)≠7 by decide) (show (2:Nat)≠8 by decide) (show (2:Nat)≠13 by decide) (show (7:Nat)≠8 by decide) (show (7:Nat)≠13 by decide) (show (8:Nat)≠13 by decide),
  Fi _ _ _ (show (3:Nat)≠4 by decide) (show (3:Nat)≠9 by decide) (show (3:Nat)≠14 by decide) (show (4:Nat)≠9 by decide) (show (4:Nat)≠14 by decide) (show (9:Nat)≠14 by decide)]
 rfl
theorem QH{s m:Nat→Int}(h:∀i,i<16→W32 (s i)):∀i,i<16→W32 (IW s m i):=Dr (Dr (Dr (Dr (Dr (Dr (Dr (Dr (h) (by decide) (by decide)) (by decide) (by decide)) (by decide) (by decide)) (by decide) (by decide)) (by decide) (by decide)) (by decide) (by decide)) (by decide) (by decide)) (by decide) (by decide)
theorem MX(s0 m:Nat→Int)(w:World)(W0:∀i,i<16→W32 (s0 i)):Calls prog 214 #[.agg (WA .u32 16 s0),.agg (WA .u32 16 m)] w fun e w'=>e=.returned (.agg (WA .u32 16 (IW s0 m)))∧Below w.heap.size w w':=by
 have g:ArrAt (((w.alloc (.cells (WA .u32 16 s0) 238)).alloc (.cells (WA .u32 16 m) 238)).alloc (.cells (WA .u32 16 fun _=>0) 238)) w.heap.size .u32 238 16 s0:=AA w _ _ _;have gm:ArrAt (((w.alloc (.cells (WA .u32 16 s0) 238)).alloc (.cells (WA .u32 16 m) 238)).alloc (.cells (WA .u32 16 fun _=>0) 238)) (w.heap.size+1) .u32 238 16 m:=AG w _ _ _;have g1:ArrAt (((w.alloc (.cells (WA .u32 16 s0) 238)).alloc (.cells (WA .u32 16 m) 238)).alloc (.cells (WA .u32 16 fun _=>0) 238)) (w.heap.size+1+1) .u32 238 16 (fun _=>0):=AP w _ _ _;have hB:Below w.heap.size w (((w.alloc (.cells (WA .u32 16 s0) 238)).alloc (.cells (WA .u32 16 m) 238)).alloc (.cells (WA .u32 16 fun _=>0) 238)):=(((Below.refl _ w).alloc (by simp) _).alloc (by simp) _).alloc (by simp;omega) _;obtain⟨z,hz⟩:∃z,IW s0 m=z:=⟨_,rfl⟩;rw[hz];have HN:=Hid.mk hz;clear hz;unfold IW at HN;go_enter func214,ntmps214
 go_wp2_with (first|(refine B9 g (by rfl) (by decide) ?_)|(refine B9 gm (by rfl) (by decide) ?_))
 refine(D6 (s0 0) (s0 4) (s0 8) (s0 12) (m 0) (m 1) _ (W0 4 (by decide)) (W0 12 (by decide))).mono ?_;rintro e vq ⟨rfl,rfl⟩
 go_wp2_with (first|(refine Bf (i:=12) g (by rfl) (by rfl) (by decide) ?_;clear g;intro v2 g o2;replace gm:=gm.only o2 (by omega);replace g1:=g1.only o2 (by omega);replace hB:=hB.trans (o2.below (Ac4 _));clear o2;refine Hid.out ?_)|(refine Bf g (by rfl) (by rfl) (by decide) ?_;clear g;intro v2 g o2;replace gm:=gm.only o2 (by omega);replace g1:=g1.only o2 (by omega);replace hB:=hB.trans (o2.below (Ac4 _));clear o2))
 replace g:ArrAt v2 w.heap.size .u32 238 16 (Eg s0 0 4 8 12 (m 0) (m 1)):=g;have W1:=Dr (a:=0) (b:=4) (c:=8) (d:=12) (x:=(m 0)) (y:=(m 1)) W0 (by decide) (by decide);generalize Eg s0 0 4 8 12 (m 0) (m 1)=s1 at *;clear W0;refine Hid.mk ?_
 go_wp2_with (first|(refine B9 g (by rfl) (by decide) ?_)|(refine B9 gm (by rfl) (by decide) ?_))
 refine(D6 (s1 1) (s1 5) (s1 9) (s1 13) (m 2) (m 3) _ (W1 5 (by decide)) (W1 13 (by decide))).mono ?_;rintro e vq ⟨rfl,rfl⟩
 go_wp2_with (first|(refine Bf (i:=13) g (by rfl) (by rfl) (by decide) ?_;clear g;intro v2 g o2;replace gm:=gm.only o2 (by omega);replace g1:=g1.only o2 (by omega);replace hB:=hB.trans (o2.below (Ac4 _));clear o2;refine Hid.out ?_)|(refine Bf g (by rfl) (by rfl) (by decide) ?_;clear g;intro v2 g o2;replace gm:=gm.only o2 (by omega);replace g1:=g1.only o2 (by omega);replace hB:=hB.trans (o2.below (Ac4 _));clear o2))
 replace g:ArrAt v2 w.heap.size .u32 238 16 (Eg s1 1 5 9 13 (m 2) (m 3)):=g;have W2:=Dr (a:=1) (b:=5) (c:=9) (d:=13) (x:=(m 2)) (y:=(m 3)) W1 (by decide) (by decide);generalize Eg s1 1 5 9 13 (m 2) (m 3)=s2 at *;clear W1;refine Hid.mk ?_
 go_wp2_with (first|(refine B9 g (by rfl) (by decide) ?_)|(refine B9 gm (by rfl) (by decide) ?_))
 refine(D6 (s2 2) (s2 6) (s2 10) (s2 14) (m 4) (m 5) _ (W2 6 (by decide)) (W2 14 (by decide))).mono ?_;rintro e vq ⟨rfl,rfl⟩
 go_wp2_with (first|(refine Bf (i:=14) g (by rfl) (by rfl) (by decide) ?_;clear g;intro v2 g o2;replace gm:=gm.only o2 (by omega);replace g1:=g1.only o2 (by omega);replace hB:=hB.trans (o2.below (Ac4 _));clear o2;refine Hid.out ?_)|(refine Bf g (by rfl) (by rfl) (by decide) ?_;clear g;intro v2 g o2;replace gm:=gm.only o2 (by omega);replace g1:=g1.only o2 (by omega);replace hB:=hB.trans (o2.below (Ac4 _));clear o2))
 replace g:ArrAt v2 w.heap.size .u32 238 16 (Eg s2 2 6 10 14 (m 4) (m 5)):=g;have W3:=Dr (a:=2) (b:=6) (c:=10) (d:=14) (x:=(m 4)) (y:=(m 5)) W2 (by decide) (by decide);generalize Eg s2 2 6 10 14 (m 4) (m 5)=s3 at *;clear W2;refine Hid.mk ?_
 go_wp2_with (first|(refine B9 g (by rfl) (by decide) ?_)|(refine B9 gm (by rfl) (by decide) ?_))
 refine(D6 (s3 3) (s3 7) (s3 11) (s3 15) (m 6) (m 7) _ (W3 7 (by decide)) (W3 15 (by decide))).mono ?_;rintro e vq ⟨rfl,rfl⟩
 go_wp2_with (first|(refine Bf (i:=15) g (by rfl) (by rfl) (by decide) ?_;clear g;intro v2 g o2;replace gm:=gm.only o2 (by omega);replace g1:=g1.only o2 (by omega);replace hB:=hB.trans (o2.below (Ac4 _));clear o2;refine Hid.out ?_)|(refine Bf g (by rfl) (by rfl) (by decide) ?_;clear g;intro v2 g o2;replace gm:=gm.only o2 (by omega);replace g1:=g1.only o2 (by omega);replace hB:=hB.trans (o2.below (Ac4 _));clear o2))
 replace g:ArrAt v2 w.heap.size .u32 238 16 (Eg s3 3 7 11 15 (m 6) (m 7)):=g;have W4:=Dr (a:=3) (b:=7) (c:=11) (d:=15) (x:=(m 6)) (y:=(m 7)) W3 (by decide) (by decide);generalize Eg s3 3 7 11 15 (m 6) (m 7)=s4 at *;clear W3;refine Hid.mk ?_
 go_wp2_with (first|(refine B9 g (by rfl) (by decide) ?_)|(refine B9 gm (by rfl) (by decide) ?_))
 refine(D6 (s4 0) (s4 5) (s4 10) (s4 15) (m 8) (m 9) _ (W4 5 (by decide)) (W4 15 (by decide))).mono ?_;rintro e vq ⟨rfl,rfl⟩
 go_wp2_with (first|(refine Bf (i:=15) g (by rfl) (by rfl) (by decide) ?_;clear g;intro v2 g o2;replace gm:=gm.only o2 (by omega);replace g1:=g1.only o2 (by omega);replace hB:=hB.trans (o2.below (Ac4 _));clear o2;refine Hid.out ?_)|(refine Bf g (by rfl) (by rfl) (by decide) ?_;clear g;intro v2 g o2;replace gm:=gm.only o2 (by omega);replace g1:=g1.only o2 (by omega);replace hB:=hB.trans (o2.below (Ac4 _));clear o2))
 replace g:ArrAt v2 w.heap.size .u32 238 16 (Eg s4 0 5 10 15 (m 8) (m 9)):=g;have W5:=Dr (a:=0) (b:=5) (c:=10) (d:=15) (x:=(m 8)) (y:=(m 9)) W4 (by decide) (by decide);generalize Eg s4 0 5 10 15 (m 8) (m 9)=s5 at *;clear W4;refine Hid.mk ?_
 go_wp2_with (first|(refine B9 g (by rfl) (by decide) ?_)|(refine B9 gm (by rfl) (by decide) ?_))
 refine(D6 (s5 1) (s5 6) (s5 11) (s5 12) (m 10) (m 11) _ (W5 6 (by decide)) (W5 12 (by decide))).mono ?_;rintro e vq ⟨rfl,rfl⟩
 go_wp2_with (first|(refine Bf (i:=12) g (by rfl) (by rfl) (by decide) ?_;clear g;intro v2 g o2;replace gm:=gm.only o2 (by omega);replace g1:=g1.only o2 (by omega);replace hB:=hB.trans (o2.below (Ac4 _));clear o2;refine Hid.out ?_)|(refine Bf g (by rfl) (by rfl) (by decide) ?_;clear g;intro v2 g o2;replace gm:=gm.only o2 (by omega);replace g1:=g1.only o2 (by omega);replace hB:=hB.trans (o2.below (Ac4 _));clear o2))
 replace g:ArrAt v2 w.heap.size .u32 238 16 (Eg s5 1 6 11 12 (m 10) (m 11)):=g;have W6:=Dr (a:=1) (b:=6) (c:=11) (d:=12) (x:=(m 10)) (y:=(m 11)) W5 (by decide) (by decide);generalize Eg s5 1 6 11 12 (m 10) (m 11)=s6 at *;clear W5;refine Hid.mk ?_
 go_wp2_with (first|(refine B9 g (by rfl) (by decide) ?_)|(refine B9 gm (by rfl) (by decide) ?_))
 refine(D6 (s6 2) (s6 7) (s6 8) (s6 13) (m 12) (m 13) _ (W6 7 (by decide)) (W6 13 (by decide))).mono ?_;rintro e vq ⟨rfl,rfl⟩
 go_wp2_with (first|(refine Bf (i:=13) g (by rfl) (by rfl) (by decide) ?_;clear g;intro v2 g o2;replace gm:=gm.only o2 (by omega);replace g1:=g1.only o2 (by omega);replace hB:=hB.trans (o2.below (Ac4 _));clear o2;refine Hid.out ?_)|(refine Bf g (by rfl) (by rfl) (by decide) ?_;clear g;intro v2 g o2;replace gm:=gm.only o2 (by omega);replace g1:=g1.only o2 (by omega);replace hB:=hB.trans (o2.below (Ac4 _));clear o2))
 replace g:ArrAt v2 w.heap.size .u32 238 16 (Eg s6 2 7 8 13 (m 12) (m 13)):=g;have W7:=Dr (a:=2) (b:=7) (c:=8) (d:=13) (x:=(m 12)) (y:=(m 13)) W6 (by decide) (by decide);generalize Eg s6 2 7 8 13 (m 12) (m 13)=s7 at *;clear W6;refine Hid.mk ?_
 go_wp2_with (first|(refine B9 g (by rfl) (by decide) ?_)|(refine B9 gm (by rfl) (by decide) ?_))
 refine(D6 (s7 3) (s7 4) (s7 9) (s7 14) (m 14) (m 15) _ (W7 4 (by decide)) (W7 14 (by decide))).mono ?_;rintro e vq ⟨rfl,rfl⟩
 go_wp2_with (first|(refine Bf (i:=14) g (by rfl) (by rfl) (by decide) ?_;clear g;intro v2 g o2;replace gm:=gm.only o2 (by omega);replace g1:=g1.only o2 (by omega);replace hB:=hB.trans (o2.below (Ac4 _));clear o2;refine Hid.out ?_)|(refine Bf g (by rfl) (by rfl) (by decide) ?_;clear g;intro v2 g o2;replace gm:=gm.only o2 (by omega);replace g1:=g1.only o2 (by omega);replace hB:=hB.trans (o2.below (Ac4 _));clear o2))
 replace g:ArrAt v2 w.heap.size .u32 238 16 (Eg s7 3 4 9 14 (m 14) (m 15)):=g;have W8:=Dr (a:=3) (b:=4) (c:=9) (d:=14) (x:=(m 14)) (y:=(m 15)) W7 (by decide) (by decide);rw[HN.out] at g;refine Hid.mk ?_
 go_wp2_with (first|(refine Aq isW g (by rfl) ?_)|(refine A0 isW g1 (by rfl) (by rfl) ?_;intro v4 g4 o4))
 exact bodyPost_ret (v:=.agg (WA .u32 16 z)) (AC rfl isW g4 rfl) rfl ⟨rfl,hB.trans (o4.below (by omega))⟩
def prt(f:Nat→Int)(n i:Nat):Int:=if i<n then f i else 0
theorem IX(f:Nat→Int)(n:Nat):upd (prt f n) n (f n)=prt f (n+1):=by
 funext i
 unfold upd prt
 by_cases e:i=n
 ·subst e;simp
 ·rw[if_neg e]
  by_cases h:i<n
  ·rw[if_pos h,if_pos (by omega)]
  ·rw[if_neg h,if_neg (by omega)]
theorem IY(f:Nat→Int):prt f 0=fun _=>0:=by
 funext i
 unfold prt;rw[if_neg (by omega)]
theorem IZ{f:Nat→Int}{n:Nat}:∀i,i<n→prt f n i=f i:=fun i hi=>by unfold prt;rw[if_pos hi]
theorem Us:CV 238 16:=⟨_,_,underlying238,by kernel_rfl⟩
theorem Ka(s:Nat→Int)(k:Nat)(w:World)(hT:Tabs w)(hk:k<10):Calls prog 215 #[.agg (WA .u32 16 s),.int .i64 (k:Int)] w fun e w'=>e=.returned (.agg (WA .u32 16 fun j=>s (ord k j)))∧Below w.heap.size w w':=by
 have g0:ArrAt (((w.alloc (.cells (WA .u32 16 s) 238)).alloc (.cells (WA .u32 16 fun _=>0) 238)).alloc (.cells (WA .u32 16 fun _=>0) 238)) w.heap.size .u32 238 16 s:=AA w _ _ _;have g1:ArrAt (((w.alloc (.cells (WA .u32 16 s) 238)).alloc (.cells (WA .u32 16 fun _=>0) 238)).alloc (.cells (WA .u32 16 fun _=>0) 238)) (w.heap.size+1) .u32 238 16 (fun _=>0):=AG w _ _ _;have g2:ArrAt (((w.alloc (.cells (WA .u32 16 s) 238)).alloc (.cells (WA .u32 16 fun _=>0) 238)).alloc (.cells (WA .u32 16 fun _=>0) 238)) (w.heap.size+1+1) .u32 238 16 (fun _=>0):=AP w _ _ _;have hB:Below w.heap.size w (((w.alloc (.cells (WA .u32 16 s) 238)).alloc (.cells (WA .u32 16 fun _=>0) 238)).alloc (.cells (WA .u32 16 fun _=>0) 238)):=(((Below.refl _ w).alloc (by simp) _).alloc (by simp) _).alloc (by simp;omega) _;have hTw:=Hid.mk hT;have h2:=hT.two;go_enter func215,ntmps215;go_wp2_with fail
 go_loopg [7] 16 (fun m i v=>∃j:Nat,Hid (m+j=16)∧i=.int .i64 j∧ArrAt v w.heap.size .u32 238 16 s∧ArrAt v (w.heap.size+1) .u32 238 16 (fun _=>0)∧ArrAt v (w.heap.size+1+1) .u32 238 16 (prt (fun j=>s (ord k j)) j)∧Below w.heap.size w v)
 case atStart=>exact⟨0,Hid.mk rfl,rfl,g0,g1,by rw[IY];exact g2,hB⟩
 case round =>
  clear g0 g1 g2 hB;obtain⟨j,HJ,rfl,g0,g1,g2,hB⟩:=hrel;have hj16:j≤16:=by have:=HJ.out;omega
  by_cases hlt:j<16
  ·have co:=(hTw.out.below hB h2).ord k hk j hlt
   have hol:=FN k hk j hlt;unfold ordI at co;have HN:=Hid.mk (IX (fun j=>s (ord k j)) j);have cs:=g0.cell (ord k j) hol;have c2:=g2.cell j hlt;have f2:=g2.free j;generalize ord k j=o at *;go_wp2_with fail
   go_roundg (16-(j+1))
   case rel=>exact⟨j+1,Hid.mk (by omega),by go_num,g0.other _ (by omega),g1.other _ (by omega),by rw[←HN.out];exact g2.set j _ hlt,Below.setCell hB (by simp;omega) _⟩
   case measure=>have:=HJ.out;omega
  ·have hj2:j=16:=by omega
   subst hj2;clear hlt hj16 HJ;replace g2:=g2.congr (s':=fun j=>s (ord k j)) IZ
   go_wp2_with (first|(refine Aq Us g2 (by rfl) ?_)|(refine A0 Us g1 (by rfl) (by rfl) ?_;intro v4 g4 o4))
   exact bodyPost_ret (v:=.agg (WA .u32 16 fun j=>s (ord k j))) (AC rfl Us g4 rfl) rfl ⟨rfl,hB.trans (o4.below (by omega))⟩
def pwd(s:Nat→Int)(i:Nat):Nat→Int
 | 0=>0
 | 1=>s (4*i)
 | 2=>s (4*i)+s (4*i+1)*256
 | 3=>s (4*i)+s (4*i+1)*256+s (4*i+2)*65536
 | _=>s (4*i)+s (4*i+1)*256+s (4*i+2)*65536+s (4*i+3)*16777216
theorem Xv(s:Nat→Int)(i:Nat)(x:Int)(h:s i=x):upd s i x=s:=by
 funext j
 unfold upd
 split
 ·subst_vars;rfl
 ·rfl
theorem Xw{x:Int}(h:0≤x∧x<256):bits .or .u32 0 x=x:=by
 have:=EP 0 x 0 1 rfl (by omega) (by omega) (by omega) h.1 (by omega)
 simpa using this
theorem Kb(s:Nat→Int)(w:World)(hs:Byts 64 s):Calls prog 213 #[.agg (WA .u8 64 s)] w fun e w'=>e=.returned (.agg (WA .u32 16 (bwd s)))∧Below w.heap.size w w':=by
 have g0:ArrAt (((w.alloc (.cells (WA .u8 64 s) 183)).alloc (.cells (WA .u32 16 fun _=>0) 238)).alloc (.cells (WA .u32 16 fun _=>0) 238)) w.heap.size .u8 183 64 s:=AA w _ _ _;have g1:ArrAt (((w.alloc (.cells (WA .u8 64 s) 183)).alloc (.cells (WA .u32 16 fun _=>0) 238)).alloc (.cells (WA .u32 16 fun _=>0) 238)) (w.heap.size+1) .u32 238 16 (fun _=>0):=AG w _ _ _;have g2:ArrAt (((w.alloc (.cells (WA .u8 64 s) 183)).alloc (.cells (WA .u32 16 fun _=>0) 238)).alloc (.cells (WA .u32 16 fun _=>0) 238)) (w.heap.size+1+1) .u32 238 16 (fun _=>0):=AP w _ _ _;have hB:Below w.heap.size w (((w.alloc (.cells (WA .u8 64 s) 183)).alloc (.cells (WA .u32 16 fun _=>0) 238)).alloc (.cells (WA .u32 16 fun _=>0) 238)):=(((Below.refl _ w).alloc (by simp) _).alloc (by simp) _).alloc (by simp;omega) _;go_enter func213,ntmps213;go_wp2_with fail
 go_loopg [6] 16 (fun m i v=>∃k:Nat,Hid (m+k=16)∧i=.int .i64 k∧ArrAt v w.heap.size .u8 183 64 s∧ArrAt v (w.heap.size+1) .u32 238 16 (fun _=>0)∧ArrAt v (w.heap.size+1+1) .u32 238 16 (prt (bwd s) k)∧Below w.heap.size w v)
 case atStart=>exact⟨0,Hid.mk rfl,rfl,g0,g1,by rw[IY];exact g2,hB⟩
 case round =>
  clear g0 g1 g2 hB;obtain⟨k,HK,rfl,g0,g1,g2,hB⟩:=hrel;have hk16:k≤16:=by have:=HK.out;omega
  by_cases hlt:k<16
  ·have HN:=Hid.mk (IX (bwd s) k)
   have hd:decide ((k:Int)<16)=true:=by simp;omega
   go_wp2_with fail;replace g2:ArrAt wr (w.heap.size+1+1) .u32 238 16 (upd (prt (bwd s) k) k (pwd s k 0)):=by rw[Xv _ _ _ (by show prt (bwd s) k k=0;unfold prt;rw[if_neg (by omega)])];exact g2
   generalize prt (bwd s) k=p at *;generalize wr=wo at *;generalize gk=gz at *;have h0:=hs (4*k) (by omega);have h1:=hs (4*k+1) (by omega);have h2:=hs (4*k+2) (by omega);have h3:=hs (4*k+3) (by omega);have HH:=Hid.mk (And.intro h0 (And.intro h1 (And.intro h2 h3)));clear h0 h1 h2 h3
   go_loopg [9] 4 (fun m i v=>∃j:Nat,Hid (m+j=4)∧i=.int .i64 j∧ArrAt v w.heap.size .u8 183 64 s∧ArrAt v (w.heap.size+1) .u32 238 16 (fun _=>0)∧ArrAt v (w.heap.size+1+1) .u32 238 16 (upd p k (pwd s k j))∧Below w.heap.size w v)
   case atStart=>exact⟨0,Hid.mk rfl,rfl,g0,g1,g2,hB⟩
   case round =>
    clear g0 g1 g2 hB;obtain⟨j,HJ,rfl,g0,g1,g2,hB⟩:=hrel;have hj4:j=0∨j=1∨j=2∨j=3∨j=4:=by have:=HJ.out;omega
    rcases hj4 with rfl | rfl | rfl | rfl | rfl
    ·have e0:bits .or .u32 0 (s (4*k))=s (4*k):=Xw HH.out.1
     have cb:=g0.cell (4*k) (by omega);have cw:=g2.cell k hlt;have fw:=g2.free k;rw[show upd p k (pwd s k 0) k=pwd s k 0 by unfold upd;rw[if_pos rfl]] at cw;unfold pwd at cw;have hb0:=HH.out.1;have g2n:=g2.set k (pwd s k 1) hlt;rw[FI] at g2n;have HG:=Hid.mk (g2n);clear g2n;unfold pwd at HG;go_wp2_with fail
     go_region
     go_wp2_with fail
     go_roundg 3
     case rel=>exact⟨1,Hid.mk rfl,by go_num,g0.other _ (by omega),g1.other _ (by omega),HG.out,(Below.setCell hB (by simp;omega) _).drew⟩
     case measure=>have:=HJ.out;omega
    ·have e0:bits .or .u32 (s (4*k)) (s (4*k+1)*256)=s (4*k)+s (4*k+1)*256:=by obtain⟨h0,h1,h2,h3⟩:=HH.out;exact EP _ _ 8 256 rfl (by omega) (by omega) (by omega) (by omega) (by omega)
     have cb:=g0.cell (4*k+1) (by omega);have cw:=g2.cell k hlt;have fw:=g2.free k;rw[show upd p k (pwd s k 1) k=pwd s k 1 by unfold upd;rw[if_pos rfl]] at cw;unfold pwd at cw;have hb0:=HH.out.2.1;have g2n:=g2.set k (pwd s k 2) hlt;rw[FI] at g2n;have HG:=Hid.mk (g2n);clear g2n;unfold pwd at HG;go_wp2_with fail
     go_region
     go_wp2_with fail
     go_roundg 2
     case rel=>exact⟨2,Hid.mk rfl,by go_num,g0.other _ (by omega),g1.other _ (by omega),HG.out,(Below.setCell hB (by simp;omega) _).drew⟩
     case measure=>have:=HJ.out;omega
    ·have e0:bits .or .u32 (s (4*k)+s (4*k+1)*256) (s (4*k+2)*65536)=s (4*k)+s (4*k+1)*256+s (4*k+2)*65536:=by obtain⟨h0,h1,h2,h3⟩:=HH.out;exact EP _ _ 16 65536 rfl (by omega) (by omega) (by omega) (by omega) (by omega)
     have cb:=g0.cell (4*k+2) (by omega);have cw:=g2.cell k hlt;have fw:=g2.free k;rw[show upd p k (pwd s k 2) k=pwd s k 2 by unfold upd;rw[if_pos rfl]] at cw;unfold pwd at cw;have hb0:=HH.out.2.2.1;have g2n:=g2.set k (pwd s k 3) hlt;rw[FI] at g2n;have HG:=Hid.mk (g2n);clear g2n;unfold pwd at HG;go_wp2_with fail
     go_region
     go_wp2_with fail
     go_roundg 1
     case rel=>exact⟨3,Hid.mk rfl,by go_num,g0.other _ (by omega),g1.other _ (by omega),HG.out,(Below.setCell hB (by simp;omega) _).drew⟩
     case measure=>have:=HJ.out;omega
    ·have e0:bits .or .u32 (s (4*k)+s (4*k+1)*256+s (4*k+2)*65536) (s (4*k+3)*16777216)=s (4*k)+s (4*k+1)*256+s (4*k+2)*65536+s (4*k+3)*16777216:=by obtain⟨h0,h1,h2,h3⟩:=HH.out;exact EP _ _ 24 16777216 rfl (by omega) (by omega) (by omega) (by omega) (by omega)
     have cb:=g0.cell (4*k+3) (by omega);have cw:=g2.cell k hlt;have fw:=g2.free k;rw[show upd p k (pwd s k 3) k=pwd s k 3 by unfold upd;rw[if_pos rfl]] at cw;unfold pwd at cw;have hb0:=HH.out.2.2.2;have g2n:=g2.set k (pwd s k 4) hlt;rw[FI] at g2n;have HG:=Hid.mk (g2n);clear g2n;unfold pwd at HG;go_wp2_with fail
     go_region
     go_wp2_with fail
     go_roundg 0
     case rel=>exact⟨4,Hid.mk rfl,by go_num,g0.other _ (by omega),g1.other _ (by omega),HG.out,(Below.setCell hB (by simp;omega) _).drew⟩
     case measure=>have:=HJ.out;omega
    ·replace g2:ArrAt wr (w.heap.size+1+1) .u32 238 16 (upd p k (bwd s k)):=by
      have e:pwd s k 4=bwd s k:=by show s (4*k)+s (4*k+1)*256+s (4*k+2)*65536+s (4*k+3)*16777216=_;unfold bwd;omega
      rw[←e];exact g2
     rw[HN.out] at g2;go_wp2_with fail
     go_roundg (16-(k+1))
     case rel=>exact⟨k+1,Hid.mk (by omega),by go_num,g0,g1,g2,hB⟩
     case measure=>have:=HK.out;omega
  ·have hk2:k=16:=by omega
   subst hk2;clear hlt hk16 HK;replace g2:=g2.congr (s':=bwd s) IZ
   go_wp2_with (first|(refine Aq Us g2 (by rfl) ?_)|(refine A0 Us g1 (by rfl) (by rfl) ?_;intro v4 g4 o4))
   exact bodyPost_ret (v:=.agg (WA .u32 16 (bwd s))) (AC rfl Us g4 rfl) rfl ⟨rfl,hB.trans (o4.below (by omega))⟩
theorem Ja(args:Array Value)(w:World):(callFunc 215 args).run prog w=.ok (.enter 215 args) w:=by kernel_rfl
theorem LJ(args:Array Value)(w:World):(callFunc 214 args).run prog w=.ok (.enter 214 args) w:=by kernel_rfl
theorem Mm:CV 194 8:=⟨_,_,underlying194,by kernel_rfl⟩
theorem Gm:CV 183 64:=⟨_,_,underlying183,by kernel_rfl⟩
theorem LK(x y z:Int):An (An x y) z=An x (An y z):=by
 unfold An;simp only[AcZ,Nat.xor_assoc]
theorem QJ{a:Act}{o:Oper}{w:World}{x:Operand}(ho:o.op=.unOp .xor 23 x){n y:Int}(hx:a.eval x=.int .u32 n)(hn:W32 n)(hy:An n 4294967295=y):(execOp a.eval o).run prog w=.ok (.value (.int .u32 y)) w:=by
 have e:bits .xor .u32 IntKind.u32.max n=y:=by
  rw[show IntKind.u32.max=4294967295 by decide,←hy,Ms];exact Cj (by unfold W32;omega) hn
 have h:(Op.unary .xor (.int .u32 n)).run prog w=.ok (.int .u32 (bits .xor .u32 IntKind.u32.max n)) w:=rfl;rw[e] at h;unfold execOp;simp only[ho,hx,Sem.run_bind,h,Result.andThen_ok,Sem.run_pure]
def GI(h:Nat→Int)(i q:Nat):Int:=if q<i then h q else if 8≤q∧q<8+i then bgn (q-8) else 0
theorem QK(h:Nat→Int)(i:Nat)(hi:i<8):upd (upd (GI h i) i (h i)) (8+i) (bgn i)=GI h (i+1):=by
 funext q
 unfold upd GI
 by_cases e1:q=8+i
 ·subst e1;rw[if_pos rfl,if_neg (by omega),if_pos (by omega),AcJ]
 ·rw[if_neg e1]
  by_cases e2:q=i
  ·subst e2;rw[if_pos rfl,if_pos (by omega)]
  ·rw[if_neg e2]
   by_cases e3:q<i
   ·rw[if_pos e3,if_pos (by omega)]
   ·have r1:¬q<i+1:=by omega
    rw[if_neg e3,if_neg r1]
    by_cases e4:8≤q∧q<8+i
    ·have r2:8≤q∧q<8+(i+1):=by omega
     rw[if_pos e4,if_pos r2]
    ·have r2:¬(8≤q∧q<8+(i+1)):=by omega
     rw[if_neg e4,if_neg r2]
theorem QL(h:Nat→Int):GI h 0=fun _=>0:=by
 funext q
 unfold GI;rw[if_neg (by omega),if_neg (by omega)]
def ovr(f h:Nat→Int)(j q:Nat):Int:=if q<j then f q else h q
theorem LL(f h:Nat→Int)(j:Nat):upd (ovr f h j) j (f j)=ovr f h (j+1):=by
 funext q
 unfold upd ovr
 by_cases e:q=j
 ·subst e;rw[if_pos rfl,if_pos (by omega)]
 ·rw[if_neg e]
  by_cases h3:q<j
  ·have r:q<j+1:=by omega
   rw[if_pos h3,if_pos r]
  ·have r:¬q<j+1:=by omega
   rw[if_neg h3,if_neg r]
theorem LM(f h:Nat→Int):ovr f h 0=h:=by
 funext q
 unfold ovr;rw[if_neg (by omega)]
theorem QM(f h:Nat→Int)(j:Nat):ovr f h j j=h j:=by unfold ovr;rw[if_neg (by omega)]
theorem LP{f h:Nat→Int}{n:Nat}:∀i,i<n→ovr f h n i=f i:=fun i hi=>by unfold ovr;rw[if_pos hi]
theorem Pv(h bl:Nat→Int)(t:Int)(last:Bool)(w:World)(hTw:Tabs w)(hh:∀i,i<8→W32 (h i))(hbl:Byts 64 bl)(ht:0≤t∧t<18446744073709551616):Calls prog 197 #[.agg (WA .u32 8 h),.agg (WA .u8 64 bl),.int .u64 t,.bool last] w fun e w'=>e=.returned (.agg (WA .u32 8 (Bh h bl t last)))∧Below w.heap.size w w':=by
 have g0:ArrAt ((((w.alloc (.cells (WA .u32 8 h) 194)).alloc (.cells (WA .u8 64 bl) 183)).alloc (.cells (WA .u32 8 fun _=>0) 194)).alloc (.cells (WA .u32 16 fun _=>0) 238)) w.heap.size .u32 194 8 h:=Ix w _ _ _ _;have g1:ArrAt ((((w.alloc (.cells (WA .u32 8 h) 194)).alloc (.cells (WA .u8 64 bl) 183)).alloc (.cells (WA .u32 8 fun _=>0) 194)).alloc (.cells (WA .u32 16 fun _=>0) 238)) (w.heap.size+1) .u8 183 64 bl:=Iy w _ _ _ _;have g2:ArrAt ((((w.alloc (.cells (WA .u32 8 h) 194)).alloc (.cells (WA .u8 64 bl) 183)).alloc (.cells (WA .u32 8 fun _=>0) 194)).alloc (.cells (WA .u32 16 fun _=>0) 238)) (w.heap.size+1+1) .u32 194 8 (fun _=>0):=Iz w _ _ _ _;have gv:ArrAt ((((w.alloc (.cells (WA .u32 8 h) 194)).alloc (.cells (WA .u8 64 bl) 183)).alloc (.cells (WA .u32 8 fun _=>0) 194)).alloc (.cells (WA .u32 16 fun _=>0) 238)) (w.heap.size+1+1+1) .u32 238 16 (fun _=>0):=E4 w _ _ _ _;have hB:Below w.heap.size w ((((w.alloc (.cells (WA .u32 8 h) 194)).alloc (.cells (WA .u8 64 bl) 183)).alloc (.cells (WA .u32 8 fun _=>0) 194)).alloc (.cells (WA .u32 16 fun _=>0) 238)):=((((Below.refl _ w).alloc (by simp) _).alloc (by simp) _).alloc (by simp;omega) _).alloc (by simp;omega) _;have h2:=hTw.two;have HTw:=Hid.mk hTw;clear hTw;go_enter func197,ntmps197;go_wp2_with fail
 go_loopg [14] 8 (fun gm iv v=>∃i:Nat,Hid (gm+i=8)∧iv=.int .i64 (i:Int)∧ArrAt v w.heap.size .u32 194 8 h∧ArrAt v (w.heap.size+1) .u8 183 64 bl∧ArrAt v (w.heap.size+1+1) .u32 194 8 (fun _=>0)∧ArrAt v (w.heap.size+1+1+1) .u32 238 16 (GI h i)∧Below w.heap.size w v)
 case atStart=>exact⟨0,Hid.mk rfl,rfl,g0,g1,g2,by rw[QL];exact gv,hB⟩
 case round =>
  clear g0 g1 g2 gv hB;obtain⟨i,HI,rfl,g0,g1,g2,gv,hB⟩:=hrel;have hi8:i≤8:=by have:=HI.out;omega
  by_cases hil:i<8
  ·have HN:=Hid.mk (QK h i hil)
   have c0:=g0.cell i hil;have cg:=(HTw.out.below hB h2).beg i hil;have cv:=gv.cell i (by omega);have fv:=gv.free i;have cw:=gv.cell (8+i) (by omega);have fw:=gv.free (8+i);have HG:=Hid.mk ((gv.set i (h i) (by omega)).set (8+i) (bgn i) (by omega));rw[HN.out] at HG;generalize bgn i=bi at *;generalize h i=hi at *;go_wp2_with fail
   go_region
   go_wp2_with fail
   go_roundg (8-(i+1))
   case rel=>exact⟨i+1,Hid.mk (by omega),by go_num,(g0.other _ (by omega)).other _ (by omega),(g1.other _ (by omega)).other _ (by omega),(g2.other _ (by omega)).other _ (by omega),HG.out,(Below.setCell (Below.setCell hB (by simp;omega) _) (by simp;omega) _).drew⟩
   case measure=>have:=HI.out;omega
  ·have hi2:i=8:=by omega
   subst hi2;clear hil hi8 HI
   have W0:∀q,q<16→W32 (GI h 8 q):=fun q hq=>by
    unfold GI
    split
    ·exact hh q (by omega)
    ·rw[if_pos (by omega)];exact Gk _
   have HQ0:Hid (∀q,q<16→GI h 8 q=if q<8 then h q else bgn (q-8)):=Hid.mk (fun q hq=>by
    unfold GI
    split
    ·rfl
    ·rw[if_pos (by omega)])
   generalize GI h 8=V0 at *;have HB2:=Hid.mk (Ia h V0 t HQ0.out);have T1:W32 (t%4294967296):=by unfold W32;omega
   have T2:W32 (t/4294967296):=by unfold W32;omega
   have T3:t/4294967296%4294967296=t/4294967296:=by omega
   have x12:=Cj (W0 12 (by omega)) T1;have c12:=gv.cell 12 (by omega);have f12:=gv.free 12;have gv1:=gv.set 12 (An (V0 12) (t%4294967296)) (by omega);have W1:∀i,i<16→W32 (upd V0 12 (An (V0 12) (t%4294967296)) i):=Bd W0 (A8 (W0 12 (by omega)) T1);generalize upd V0 12 (An (V0 12) (t%4294967296))=V1 at *;have x13:=Cj (W1 13 (by omega)) T2;have c13:=gv1.cell 13 (by omega);have f13:=gv1.free 13;have gv2:=gv1.set 13 (An (V1 13) (t/4294967296)) (by omega);have W2:∀i,i<16→W32 (upd V1 13 (An (V1 13) (t/4294967296)) i):=Bd W1 (A8 (W1 13 (by omega)) T2);generalize upd V1 13 (An (V1 13) (t/4294967296))=V2 at *;replace gv2:=gv2.congr (s':=Bs h t false) HB2.out;replace W2:∀i,i<16→W32 (Bs h t false i):=fun i hi=>by rw[←HB2.out i hi];exact W2 i hi
   replace g0:=(g0.other (g:=(w.heap.size+1+1+1)) (i:=12) (.int .u32 (An (V0 12) (t%4294967296))) (by omega)).other (g:=(w.heap.size+1+1+1)) (i:=13) (.int .u32 (An (V1 13) (t/4294967296))) (by omega);replace g1:=(g1.other (g:=(w.heap.size+1+1+1)) (i:=12) (.int .u32 (An (V0 12) (t%4294967296))) (by omega)).other (g:=(w.heap.size+1+1+1)) (i:=13) (.int .u32 (An (V1 13) (t/4294967296))) (by omega);replace g2:=(g2.other (g:=(w.heap.size+1+1+1)) (i:=12) (.int .u32 (An (V0 12) (t%4294967296))) (by omega)).other (g:=(w.heap.size+1+1+1)) (i:=13) (.int .u32 (An (V1 13) (t/4294967296))) (by omega);replace hB:=Below.setCell (Below.setCell hB (p:=⟨(w.heap.size+1+1+1),12,none⟩) (by simp;omega) (.int .u32 (An (V0 12) (t%4294967296)))) (p:=⟨(w.heap.size+1+1+1),13,none⟩) (by simp;omega) (.int .u32 (An (V1 13) (t/4294967296)));generalize An (V0 12) (t%4294967296)=y12 at *;generalize An (V1 13) (t/4294967296)=y13 at *;clear gv HB2 HQ0 W0 W1 T1 T2 gv1
   cases last with
   | false =>
    have gv:=gv2;clear gv2;have HV:Hid (∀i,i<16→W32 (Bs h t false i)):=Hid.mk W2
    go_wp2_with (refine Aq Gm g1 (by rfl) ?_)
    refine(Kb bl _ hbl).mono ?_;rintro e v4 ⟨rfl,hb4⟩;replace g0:=g0.kept hb4;replace g2:=g2.kept hb4;replace gv:=gv.kept hb4;replace hB:=hB.trans (hb4.mono hB.size);clear hb4 g1;have gn:=fun o (ho:o=Obj.cells (WA .u32 16 fun _=>0) 238 (0,0))=>(by rw[ho];exact heap_alloc_new v4 _:ArrAt (v4.alloc o) v4.heap.size .u32 238 16 (fun _=>0))
    have HBS:=Hid.mk hB.size;have hz:=gv.lt
    go_wp2_with (refine A0 isW (gn _ rfl) (by rfl) (by rfl) ?_;intro v5 gm o5;refine Hid.out ?_)
    replace hB:=(hB.alloc HBS.out _).trans (o5.below HBS.out);replace g0:=(g0.alloc _).only o5 (by omega);replace g2:=(g2.alloc _).only o5 (by omega);replace gv:=(gv.alloc _).only o5 (by omega);clear o5 gn HBS;generalize v4.heap.size=bm at *;have HT5:Hid (Tabs v5):=Hid.mk (HTw.out.below hB h2);refine Hid.mk ?_;go_wp2_with fail
    go_loopg [49] 10 (fun gm iv v=>∃k:Nat,Hid (gm+k=10)∧iv=.int .i64 (k:Int)∧ArrAt v (w.heap.size+1+1+1) .u32 238 16 (CN (bwd bl) (Bs h t false) k)∧Hid (∀i,i<16→W32 (CN (bwd bl) (Bs h t false) k i))∧Touch (fun x=>x=(w.heap.size+1+1+1)) v5 v)
    case atStart=>exact⟨0,Hid.mk rfl,rfl,gv,HV,Touch.refl _ _⟩
    case round =>
     clear gv;obtain⟨k,HK,rfl,gv,HX,hT5⟩:=hrel;have hk10:k≤10:=by have:=HK.out;omega
     by_cases hk:k<10
     ·have HN:Hid (IW (CN (bwd bl) (Bs h t false) k) (fun j=>bwd bl (ord k j))=CN (bwd bl) (Bs h t false) (k+1)):=Hid.mk (LI (bwd bl) k _).symm
      generalize CN (bwd bl) (Bs h t false) k=X at *;go_wp2_with fail;refine AH (fun v=>ArrAt v (w.heap.size+1+1+1) .u32 238 16 X∧Touch (fun x=>x=(w.heap.size+1+1+1)) v5 v) ⟨gv,hT5⟩ ?_;clear gv hT5;rintro v0 ⟨gv,hT5⟩;have HM:Hid (∀u,Touch (fun x=>x=(w.heap.size+1+1+1)) v5 u→ArrAt u bm .u32 238 16 (bwd bl)):=Hid.mk (fun u hu=>gm.touch hu (by omega));have HT:Hid (∀u,Touch (fun x=>x=(w.heap.size+1+1+1)) v5 u→Tabs u):=Hid.mk (fun u hu=>HT5.out.touch hu (by omega));refine Ai (Touch (fun x=>x=(w.heap.size+1+1+1)) v5) v0.heap.size
       [((w.heap.size+1+1+1),once (WA .u32 16 X) 238 5 (WA .u32 16 (IW X fun j=>bwd bl (ord k j))))]
       [kv (.agg (WA .u32 16 X)),kv (.agg (WA .u32 16 (bwd bl))),kv (.int .i64 ((k:Nat):Int)),kv (.agg (WA .u32 16 fun j=>bwd bl (ord k j))),kv (.agg (WA .u32 16 (IW X fun j=>bwd bl (ord k j)))),.val fun _=>True]
       [.none,.none,.none,.none,.none,.base 0 1]
       [some 52,some 53,some 54,some 55,some 56,none]
       [(9,.pointer (some ⟨(w.heap.size+1+1+1),0,none⟩)),(11,.pointer (some ⟨bm,0,none⟩)),(12,.int .i64 ((k:Nat):Int))]
       [[.base 0 0],[],[],[.slot 1,.slot 2],[.slot 0,.slot 3],[.slot 4,.base 0 0]]
       [.base 0 1] [52,53,54,55,56]
       rfl (by kernel_rfl) ⟨rfl,rfl,rfl,trivial⟩ (Touch.drew hT5) (Ac4 _) ⟨⟨gv.lt,Ao gv⟩,trivial⟩ ⟨trivial,trivial⟩ (Ca hT5.size)
       ⟨
        sL fun f k=>sV (Bg rfl isW (Ak k.1) f.1),
        (fun _ _ ww _ hS _ fr _=>sV (Bg rfl isW (HM.out ww hS) fr.2.1)),
        sL fun f _=>sV (Ab rfl f.2.2.1),
        (fun _ _ ww _ hS _ _ kn=>.inl ⟨trivial,fun K hK=>AD Ja rfl (CC kn.1 kn.2.1) (Ka (bwd bl) k ww (HT.out ww hS) hk) (fun w' hb=>hK _ _ ⟨Ad hb,rfl⟩)⟩),
        (fun _ _ ww _ _ _ _ kn=>.inl ⟨trivial,fun K hK=>AD LJ rfl (CC kn.1 kn.2.1) (MX X _ ww HX.out) (fun w' hb=>hK _ _ ⟨Ad hb,rfl⟩)⟩),
        sL fun f k=>.inl ⟨trivial,fun K hK=>BQ rfl isW f.1 k.1 (Ak k.2.1) (fun w2 hg ho=>hK _ _ ⟨⟨Ag ho,Ao hg⟩,trivial⟩)⟩,
        trivial⟩ ?_
      intro vs own v6 hT6 hs6 kn inj;clear inj hs6;replace gv:ArrAt v6 (w.heap.size+1+1+1) .u32 238 16 (IW X fun j=>bwd bl (ord k j)):=Ak kn.1;clear kn HM HT hT5;simp only[Ap,Act.put,Ac6,Ac7,Ac5];have HW6:=Hid.mk (QH (m:=fun j=>bwd bl (ord k j)) HX.out);rw[HN.out] at gv HW6;go_wp2_with fail
      go_roundg (10-(k+1))
      case rel=>exact⟨k+1,Hid.mk (by omega),by go_num,gv,HW6,hT6⟩
      case measure=>have:=HK.out;omega
     ·have hk2:k=10:=by omega
      subst hk2;have HTF:Hid (∀q,q<8→Bh h bl t false q=An (h q) (An (CN (bwd bl) (Bs h t false) 10 q) (CN (bwd bl) (Bs h t false) 10 (8+q)))):=Hid.mk (fun q _=>by unfold Bh;rw[LK,Nat.add_comm q 8]);generalize CN (bwd bl) (Bs h t false) 10=vt at *;replace g0:=g0.touch hT5 (by omega);replace g2:=g2.touch hT5 (by omega);replace hB:=Br hB hT5 (by omega) (Ac4 _);clear hT5 hk hk10 HK gm HT5;go_wp2_with fail;rw[show ((10:Nat):Int)=10 from rfl];generalize wr=wo3 at *
      go_loopg [58] 8 (fun gm iv v=>∃j:Nat,Hid (gm+j=8)∧iv=.int .i64 (j:Int)∧ArrAt v w.heap.size .u32 194 8 (ovr (Bh h bl t false) h j)∧ArrAt v (w.heap.size+1+1) .u32 194 8 (fun _=>0)∧ArrAt v (w.heap.size+1+1+1) .u32 238 16 vt∧Below w.heap.size w v)
      case atStart=>exact⟨0,Hid.mk rfl,rfl,by rw[LM];exact g0,g2,gv,hB⟩
      case round =>
       clear g0 g2 gv hB;obtain⟨j,HJ,rfl,g0,g2,gv,hB⟩:=hrel;have hj8:j≤8:=by have:=HJ.out;omega
       by_cases hj:j<8
       ·have c0:=g0.cell j hj
        have f0:=g0.free j;rw[QM] at c0;have c1:=gv.cell j (by omega);have c2:=gv.cell (8+j) (by omega);have e1:=Cj (HX.out j (by omega)) (HX.out (8+j) (by omega));have e2:=Cj (hh j hj) (A8 (HX.out j (by omega)) (HX.out (8+j) (by omega)));have HG:=Hid.mk (g0.set j (Bh h bl t false j) hj);rw[LL] at HG;rw[HTF.out j hj] at HG;generalize An (vt j) (vt (8+j))=x1 at *;generalize An (h j) x1=x2 at *;go_wp2_with fail
        go_region
        go_wp2_with fail
        go_roundg (8-(j+1))
        case rel=>exact⟨j+1,Hid.mk (by omega),by go_num,HG.out,(g2.other _ (by omega)),(gv.other _ (by omega)),(Below.setCell hB (by simp) _).drew⟩
        case measure=>have:=HJ.out;omega
       ·have hj2:j=8:=by omega
        subst hj2;replace g0:=g0.congr (s':=Bh h bl t false) LP;clear hj hj8 HJ HTF
        go_wp2_with (first|(refine Aq Mm g0 (by rfl) ?_)|(refine A0 Mm g2 (by rfl) (by rfl) ?_;intro v9 g9 o9))
        exact bodyPost_ret (v:=.agg (WA .u32 8 (Bh h bl t false))) (AC rfl Mm g9 rfl) rfl ⟨rfl,hB.trans (o9.below (by omega))⟩
   | true =>
    have c14:=gv2.cell 14 (by omega);have f14:=gv2.free 14;have W14:=W2 14 (by omega);obtain⟨y14,E14⟩:∃y,An (Bs h t false 14) 4294967295=y:=⟨_,rfl⟩;have gv:=(gv2.set 14 (An (Bs h t false 14) 4294967295) (by omega)).congr (s':=Bs h t true) (GS h _ t (fun _ _=>rfl))
    have W3:∀i,i<16→W32 (Bs h t true i):=fun i hi=>by
     rw[←GS h _ t (fun _ _=>rfl) i hi];exact Bd W2 (A8 (W2 14 (by omega)) (by unfold W32;omega)) i hi
    replace g0:=g0.other (g:=(w.heap.size+1+1+1)) (i:=14) (.int .u32 (An (Bs h t false 14) 4294967295)) (by omega);replace g1:=g1.other (g:=(w.heap.size+1+1+1)) (i:=14) (.int .u32 (An (Bs h t false 14) 4294967295)) (by omega);replace g2:=g2.other (g:=(w.heap.size+1+1+1)) (i:=14) (.int .u32 (An (Bs h t false 14) 4294967295)) (by omega);replace hB:=Below.setCell hB (p:=⟨(w.heap.size+1+1+1),14,none⟩) (by simp;omega) (.int .u32 (An (Bs h t false 14) 4294967295));rw[E14] at gv g0 g1 g2 hB;clear gv2 W2;have HV:Hid (∀i,i<16→W32 (Bs h t true i)):=Hid.mk W3
    go_wp2_with (first|(refine Ae rfl (QJ rfl (by rfl) W14 E14) ?_)|(refine Aq Gm g1 (by rfl) ?_))
    refine(Kb bl _ hbl).mono ?_;rintro e v4 ⟨rfl,hb4⟩;replace g0:=g0.kept hb4;replace g2:=g2.kept hb4;replace gv:=gv.kept hb4;replace hB:=hB.trans (hb4.mono hB.size);clear hb4 g1;have gn:=fun o (ho:o=Obj.cells (WA .u32 16 fun _=>0) 238 (0,0))=>(by rw[ho];exact heap_alloc_new v4 _:ArrAt (v4.alloc o) v4.heap.size .u32 238 16 (fun _=>0))
    have HBS:=Hid.mk hB.size;have hz:=gv.lt
    go_wp2_with (refine A0 isW (gn _ rfl) (by rfl) (by rfl) ?_;intro v5 gm o5;refine Hid.out ?_)
    replace hB:=(hB.alloc HBS.out _).trans (o5.below HBS.out);replace g0:=(g0.alloc _).only o5 (by omega);replace g2:=(g2.alloc _).only o5 (by omega);replace gv:=(gv.alloc _).only o5 (by omega);clear o5 gn HBS;generalize v4.heap.size=bm at *;have HT5:Hid (Tabs v5):=Hid.mk (HTw.out.below hB h2);refine Hid.mk ?_;go_wp2_with fail
    go_loopg [49] 10 (fun gm iv v=>∃k:Nat,Hid (gm+k=10)∧iv=.int .i64 (k:Int)∧ArrAt v (w.heap.size+1+1+1) .u32 238 16 (CN (bwd bl) (Bs h t true) k)∧Hid (∀i,i<16→W32 (CN (bwd bl) (Bs h t true) k i))∧Touch (fun x=>x=(w.heap.size+1+1+1)) v5 v)
    case atStart=>exact⟨0,Hid.mk rfl,rfl,gv,HV,Touch.refl _ _⟩
    case round =>
     clear gv;obtain⟨k,HK,rfl,gv,HX,hT5⟩:=hrel;have hk10:k≤10:=by have:=HK.out;omega
     by_cases hk:k<10
     ·have HN:Hid (IW (CN (bwd bl) (Bs h t true) k) (fun j=>bwd bl (ord k j))=CN (bwd bl) (Bs h t true) (k+1)):=Hid.mk (LI (bwd bl) k _).symm
      generalize CN (bwd bl) (Bs h t true) k=X at *;go_wp2_with fail;refine AH (fun v=>ArrAt v (w.heap.size+1+1+1) .u32 238 16 X∧Touch (fun x=>x=(w.heap.size+1+1+1)) v5 v) ⟨gv,hT5⟩ ?_;clear gv hT5;rintro v0 ⟨gv,hT5⟩;have HM:Hid (∀u,Touch (fun x=>x=(w.heap.size+1+1+1)) v5 u→ArrAt u bm .u32 238 16 (bwd bl)):=Hid.mk (fun u hu=>gm.touch hu (by omega));have HT:Hid (∀u,Touch (fun x=>x=(w.heap.size+1+1+1)) v5 u→Tabs u):=Hid.mk (fun u hu=>HT5.out.touch hu (by omega));refine Ai (Touch (fun x=>x=(w.heap.size+1+1+1)) v5) v0.heap.size
       [((w.heap.size+1+1+1),once (WA .u32 16 X) 238 5 (WA .u32 16 (IW X fun j=>bwd bl (ord k j))))]
       [kv (.agg (WA .u32 16 X)),kv (.agg (WA .u32 16 (bwd bl))),kv (.int .i64 ((k:Nat):Int)),kv (.agg (WA .u32 16 fun j=>bwd bl (ord k j))),kv (.agg (WA .u32 16 (IW X fun j=>bwd bl (ord k j)))),.val fun _=>True]
       [.none,.none,.none,.none,.none,.base 0 1]
       [some 52,some 53,some 54,some 55,some 56,none]
       [(9,.pointer (some ⟨(w.heap.size+1+1+1),0,none⟩)),(11,.pointer (some ⟨bm,0,none⟩)),(12,.int .i64 ((k:Nat):Int))]
       [[.base 0 0],[],[],[.slot 1,.slot 2],[.slot 0,.slot 3],[.slot 4,.base 0 0]]
       [.base 0 1] [52,53,54,55,56]
       rfl (by kernel_rfl) ⟨rfl,rfl,rfl,trivial⟩ (Touch.drew hT5) (Ac4 _) ⟨⟨gv.lt,Ao gv⟩,trivial⟩ ⟨trivial,trivial⟩ (Ca hT5.size)
       ⟨
        sL fun f k=>sV (Bg rfl isW (Ak k.1) f.1),
        (fun _ _ ww _ hS _ fr _=>sV (Bg rfl isW (HM.out ww hS) fr.2.1)),
        sL fun f _=>sV (Ab rfl f.2.2.1),
        (fun _ _ ww _ hS _ _ kn=>.inl ⟨trivial,fun K hK=>AD Ja rfl (CC kn.1 kn.2.1) (Ka (bwd bl) k ww (HT.out ww hS) hk) (fun w' hb=>hK _ _ ⟨Ad hb,rfl⟩)⟩),
        (fun _ _ ww _ _ _ _ kn=>.inl ⟨trivial,fun K hK=>AD LJ rfl (CC kn.1 kn.2.1) (MX X _ ww HX.out) (fun w' hb=>hK _ _ ⟨Ad hb,rfl⟩)⟩),
        sL fun f k=>.inl ⟨trivial,fun K hK=>BQ rfl isW f.1 k.1 (Ak k.2.1) (fun w2 hg ho=>hK _ _ ⟨⟨Ag ho,Ao hg⟩,trivial⟩)⟩,
        trivial⟩ ?_
      intro vs own v6 hT6 hs6 kn inj;clear inj hs6;replace gv:ArrAt v6 (w.heap.size+1+1+1) .u32 238 16 (IW X fun j=>bwd bl (ord k j)):=Ak kn.1;clear kn HM HT hT5;simp only[Ap,Act.put,Ac6,Ac7,Ac5];have HW6:=Hid.mk (QH (m:=fun j=>bwd bl (ord k j)) HX.out);rw[HN.out] at gv HW6;go_wp2_with fail
      go_roundg (10-(k+1))
      case rel=>exact⟨k+1,Hid.mk (by omega),by go_num,gv,HW6,hT6⟩
      case measure=>have:=HK.out;omega
     ·have hk2:k=10:=by omega
      subst hk2;have HTF:Hid (∀q,q<8→Bh h bl t true q=An (h q) (An (CN (bwd bl) (Bs h t true) 10 q) (CN (bwd bl) (Bs h t true) 10 (8+q)))):=Hid.mk (fun q _=>by unfold Bh;rw[LK,Nat.add_comm q 8]);generalize CN (bwd bl) (Bs h t true) 10=vt at *;replace g0:=g0.touch hT5 (by omega);replace g2:=g2.touch hT5 (by omega);replace hB:=Br hB hT5 (by omega) (Ac4 _);clear hT5 hk hk10 HK gm HT5;go_wp2_with fail;rw[show ((10:Nat):Int)=10 from rfl];generalize wr=wo3 at *
      go_loopg [58] 8 (fun gm iv v=>∃j:Nat,Hid (gm+j=8)∧iv=.int .i64 (j:Int)∧ArrAt v w.heap.size .u32 194 8 (ovr (Bh h bl t true) h j)∧ArrAt v (w.heap.size+1+1) .u32 194 8 (fun _=>0)∧ArrAt v (w.heap.size+1+1+1) .u32 238 16 vt∧Below w.heap.size w v)
      case atStart=>exact⟨0,Hid.mk rfl,rfl,by rw[LM];exact g0,g2,gv,hB⟩
      case round =>
       clear g0 g2 gv hB;obtain⟨j,HJ,rfl,g0,g2,gv,hB⟩:=hrel;have hj8:j≤8:=by have:=HJ.out;omega
       by_cases hj:j<8
       ·have c0:=g0.cell j hj
        have f0:=g0.free j;rw[QM] at c0;have c1:=gv.cell j (by omega);have c2:=gv.cell (8+j) (by omega);have e1:=Cj (HX.out j (by omega)) (HX.out (8+j) (by omega));have e2:=Cj (hh j hj) (A8 (HX.out j (by omega)) (HX.out (8+j) (by omega)));have HG:=Hid.mk (g0.set j (Bh h bl t true j) hj);rw[LL] at HG;rw[HTF.out j hj] at HG;generalize An (vt j) (vt (8+j))=x1 at *;generalize An (h j) x1=x2 at *;go_wp2_with fail
        go_region
        go_wp2_with fail
        go_roundg (8-(j+1))
        case rel=>exact⟨j+1,Hid.mk (by omega),by go_num,HG.out,(g2.other _ (by omega)),(gv.other _ (by omega)),(Below.setCell hB (by simp) _).drew⟩
        case measure=>have:=HJ.out;omega
       ·have hj2:j=8:=by omega
        subst hj2;replace g0:=g0.congr (s':=Bh h bl t true) LP;clear hj hj8 HJ HTF
        go_wp2_with (first|(refine Aq Mm g0 (by rfl) ?_)|(refine A0 Mm g2 (by rfl) (by rfl) ?_;intro v9 g9 o9))
        exact bodyPost_ret (v:=.agg (WA .u32 8 (Bh h bl t true))) (AC rfl Mm g9 rfl) rfl ⟨rfl,hB.trans (o9.below (by omega))⟩
theorem Xx:CV 194 8:=⟨_,_,underlying194,by kernel_rfl⟩
theorem MY(h:Nat→Int)(w:World)(hh:∀i,i<8→W32 (h i)):Calls prog 173 #[.agg (WA .u32 8 h)] w fun e w'=>e=.returned (.agg (WA .u8 32 (DP h)))∧Below w.heap.size w w':=by
 have g0:ArrAt (((w.alloc (.cells (WA .u32 8 h) 194)).alloc (.cells (WA .u8 32 fun _=>0) 22)).alloc (.cells (WA .u8 32 fun _=>0) 22)) w.heap.size .u32 194 8 h:=AA w _ _ _;have g1:ArrAt (((w.alloc (.cells (WA .u32 8 h) 194)).alloc (.cells (WA .u8 32 fun _=>0) 22)).alloc (.cells (WA .u8 32 fun _=>0) 22)) (w.heap.size+1) .u8 22 32 (fun _=>0):=AG w _ _ _;have g2:ArrAt (((w.alloc (.cells (WA .u32 8 h) 194)).alloc (.cells (WA .u8 32 fun _=>0) 22)).alloc (.cells (WA .u8 32 fun _=>0) 22)) (w.heap.size+1+1) .u8 22 32 (fun _=>0):=AP w _ _ _;have hB:Below w.heap.size w (((w.alloc (.cells (WA .u32 8 h) 194)).alloc (.cells (WA .u8 32 fun _=>0) 22)).alloc (.cells (WA .u8 32 fun _=>0) 22)):=(((Below.refl _ w).alloc (by simp) _).alloc (by simp) _).alloc (by simp;omega) _;go_enter func173,ntmps173;go_wp2_with fail
 go_loopg [5] 32 (fun m i v=>∃j:Nat,Hid (m+j=32)∧i=.int .i64 j∧ArrAt v w.heap.size .u32 194 8 h∧ArrAt v (w.heap.size+1) .u8 22 32 (fun _=>0)∧ArrAt v (w.heap.size+1+1) .u8 22 32 (prt (DP h) j)∧Below w.heap.size w v)
 case atStart=>exact⟨0,Hid.mk rfl,rfl,g0,g1,by rw[IY];exact g2,hB⟩
 case round =>
  clear g0 g1 g2 hB;obtain⟨j,HJ,rfl,g0,g1,g2,hB⟩:=hrel;have hj32:j≤32:=by have:=HJ.out;omega
  by_cases hlt:j<32
  ·have HN:=Hid.mk (IX (DP h) j)
   have hq:((j:Nat):Int).tdiv 4=((j/4:Nat):Int):=by rw[AcW (by omega)];rfl
   have hr:((j:Nat):Int).tmod 4=((j%4:Nat):Int):=by rw[AcM (by omega)];rfl
   have ha:j/4<8:=by omega
   have c0:=g0.cell (j/4) ha;have w0:=hh (j/4) ha;unfold W32 at w0;have c2:=g2.cell j hlt;have f2:=g2.free j;have HO:Hid (DP h j=h (j/4)/256 ^ (j%4)%256):=Hid.mk rfl;have hb:j%4=0∨j%4=1∨j%4=2∨j%4=3:=by omega
   generalize j/4=a at *;generalize h a=x at *;have HG:=Hid.mk (g2.set j (DP h j) hlt);rw[HN.out] at HG
   rcases hb with hb | hb | hb | hb
   ·rw[hb] at HO hr
    have HO2:Hid (DP h j=x%256):=Hid.mk (by rw[HO.out];simp);rw[HO2.out] at HG;clear HO HN;go_wp2_with fail
    go_roundg (32-(j+1))
    case rel=>exact⟨j+1,Hid.mk (by omega),by go_num,g0.other _ (by omega),g1.other _ (by omega),HG.out,Below.setCell hB (by simp;omega) _⟩
    case measure=>have:=HJ.out;omega
   ·rw[hb] at HO hr
    have HO2:Hid (DP h j=x/256%256):=Hid.mk (by rw[HO.out];simp);rw[HO2.out] at HG;clear HO HN;go_wp2_with fail
    go_roundg (32-(j+1))
    case rel=>exact⟨j+1,Hid.mk (by omega),by go_num,g0.other _ (by omega),g1.other _ (by omega),HG.out,Below.setCell hB (by simp;omega) _⟩
    case measure=>have:=HJ.out;omega
   ·rw[hb] at HO hr
    have HO2:Hid (DP h j=x/65536%256):=Hid.mk (by rw[HO.out];simp);rw[HO2.out] at HG;clear HO HN;go_wp2_with fail
    go_roundg (32-(j+1))
    case rel=>exact⟨j+1,Hid.mk (by omega),by go_num,g0.other _ (by omega),g1.other _ (by omega),HG.out,Below.setCell hB (by simp;omega) _⟩
    case measure=>have:=HJ.out;omega
   ·rw[hb] at HO hr
    have HO2:Hid (DP h j=x/16777216):=Hid.mk (by rw[HO.out];simp;omega);rw[HO2.out] at HG;clear HO HN;go_wp2_with fail
    go_roundg (32-(j+1))
    case rel=>exact⟨j+1,Hid.mk (by omega),by go_num,g0.other _ (by omega),g1.other _ (by omega),HG.out,Below.setCell hB (by simp;omega) _⟩
    case measure=>have:=HJ.out;omega
  ·have hj2:j=32:=by omega
   subst hj2;clear hlt hj32 HJ;replace g2:=g2.congr (s':=DP h) IZ
   go_wp2_with (first|(refine Aq Af g2 (by rfl) ?_)|(refine A0 Af g1 (by rfl) (by rfl) ?_;intro v4 g4 o4))
   exact bodyPost_ret (v:=.agg (WA .u8 32 (DP h))) (AC rfl Af g4 rfl) rfl ⟨rfl,hB.trans (o4.below (by omega))⟩
theorem LQ(size kl:Nat)(w:World)(hT:Tabs w)(hs:size≤64)(hk:kl≤64):Calls prog 171 #[.int .i64 (size:Int),.int .i64 (kl:Int)] w fun e w'=>e=.returned (.agg (WA .u32 8 (h0F size kl)))∧Below w.heap.size w w':=by
 have g0:ArrAt ((w.alloc (.cells (WA .u32 8 fun _=>0) 194)).alloc (.cells (WA .u32 8 fun _=>0) 194)) w.heap.size .u32 194 8 (fun _=>0):=heap_alloc2_old w _ _;have g1:ArrAt ((w.alloc (.cells (WA .u32 8 fun _=>0) 194)).alloc (.cells (WA .u32 8 fun _=>0) 194)) (w.heap.size+1) .u32 194 8 (fun _=>0):=heap_alloc2_new w _ _;have hB:Below w.heap.size w ((w.alloc (.cells (WA .u32 8 fun _=>0) 194)).alloc (.cells (WA .u32 8 fun _=>0) 194)):=((Below.refl _ w).alloc (by simp) _).alloc (by simp) _;have hTw:=Hid.mk hT;have h2:=hT.two;go_enter func171,ntmps171;go_wp2_with fail
 go_loopg [7] 8 (fun m i v=>∃j:Nat,Hid (m+j=8)∧i=.int .i64 j∧ArrAt v w.heap.size .u32 194 8 (fun _=>0)∧ArrAt v (w.heap.size+1) .u32 194 8 (prt bgn j)∧Below w.heap.size w v)
 case atStart=>exact⟨0,Hid.mk rfl,rfl,g0,by rw[IY];exact g1,hB⟩
 case round =>
  clear g0 g1 hB;obtain⟨j,HJ,rfl,g0,g1,hB⟩:=hrel;have hj8:j≤8:=by have:=HJ.out;omega
  by_cases hlt:j<8
  ·have co:=(hTw.out.below hB h2).beg j hlt
   have HN:=Hid.mk (IX bgn j);have c1:=g1.cell j hlt;have f1:=g1.free j;generalize bgn j=o at *;go_wp2_with fail
   go_roundg (8-(j+1))
   case rel=>exact⟨j+1,Hid.mk (by omega),by go_num,g0.other _ (by omega),by rw[←HN.out];exact g1.set j _ hlt,Below.setCell hB (by simp) _⟩
   case measure=>have:=HJ.out;omega
  ·have hj2:j=8:=by omega
   subst hj2;clear hlt hj8 HJ;replace g1:=g1.congr (s':=bgn) IZ;have c1:=g1.cell 0 (by omega);have f1:=g1.free 0;have wb:=Gk 0;have k1:W32 ((kl:Int)*256):=by unfold W32;omega
   have k2:W32 (size:Int):=by unfold W32;omega
   have x1:=Cj (x:=16842752) (by unfold W32;omega) k1;have x2:=Cj (A8 (x:=16842752) (by unfold W32;omega) k1) k2;have x3:=Cj wb (A8 (A8 (x:=16842752) (by unfold W32;omega) k1) k2)
   have HE:Hid (upd bgn 0 (An (bgn 0) (An (An 16842752 ((kl:Int)*256)) (size:Int)))=h0F size kl):=Hid.mk (by
    unfold h0F;rw[AcL (kl:Int) 256];unfold An;simp only[AcZ,Nat.xor_assoc])
   have HG:=Hid.mk (g1.set 0 (An (bgn 0) (An (An 16842752 ((kl:Int)*256)) (size:Int))) (by omega));rw[HE.out] at HG;replace g0:=g0.other (g:=w.heap.size+1) (i:=0) (.int .u32 (An (bgn 0) (An (An 16842752 ((kl:Int)*256)) (size:Int)))) (by omega);replace hB:=Below.setCell hB (p:=⟨w.heap.size+1,0,none⟩) (by simp) (.int .u32 (An (bgn 0) (An (An 16842752 ((kl:Int)*256)) (size:Int))));generalize An 16842752 ((kl:Int)*256)=y1 at *;generalize An y1 (size:Int)=y2 at *;generalize An (bgn 0) y2=y3 at *;clear g1 HE;have g1:=HG.out
   go_wp2_with (first|(refine Aq Xx g1 (by rfl) ?_)|(refine A0 Xx g0 (by rfl) (by rfl) ?_;intro v4 g4 o4))
   exact bodyPost_ret (v:=.agg (WA .u32 8 (h0F size kl))) (AC rfl Xx g4 rfl) rfl ⟨rfl,hB.trans (o4.below (by omega))⟩
def Ho(H:Nat→Int)(t:Int)(B:Nat→Int)(l:Int)(i:Nat):Value:=if i<8 then .int .u32 (H i) else if i<9 then .int .u64 t else if i<73 then .int .u8 (B (i-9)) else .int .i64 l
def JB(H:Nat→Int)(t:Int)(B:Nat→Int)(l:Int):Array Value:=((AcA 74).map (Ho H t B l)).toArray
theorem Hg(H:Nat→Int)(t:Int)(B:Nat→Int)(l:Int):(JB H t B l).size=74:=by simp[JB]
theorem Jb(H:Nat→Int)(t:Int)(B:Nat→Int)(l:Int)(i:Nat)(h:i<74):(JB H t B l)[i]?=some (Ho H t B l i):=by simp[JB,h]
theorem Pw{cs:Array Value}{H:Nat→Int}{t:Int}{B:Nat→Int}{l:Int}(hs:cs.size=74)(h:∀i,i<74→cs[i]?=some (Ho H t B l i)):cs=JB H t B l:=by
 apply Adh;intro i
 by_cases hi:i<74
 ·rw[h i hi,Jb H t B l i hi]
 ·rw[AcI (by omega),AcI (by rw[Hg];omega)]
def HashAt(w:World)(b:Nat)(H:Nat→Int)(t:Int)(B:Nat→Int)(l:Int):Prop:=w.heap[b]?=some (.cells (JB H t B l) 197 (0,0))
section
variable {w w':World} {b:Nat} {H B:Nat→Int} {t l:Int}
theorem HashAt.at(h:HashAt w b H t B l)(i:Nat)(hi:i<74):w.cell? ⟨b,i,none⟩=some (Ho H t B l i):=by
 rw[cell_of_row w b i _ _ _ h,Jb H t B l i hi]
theorem HashAt.free(h:HashAt w b H t B l)(i:Nat):w.frozen? ⟨b,i,none⟩=false:=frozen_of_row w b i _ _ h
theorem HashAt.lt(h:HashAt w b H t B l):b<w.heap.size:=Aa h
theorem HashAt.block(h:HashAt w b H t B l)(e:w'.heap[b]?=w.heap[b]?):HashAt w' b H t B l:=e.trans h
theorem HashAt.alloc(h:HashAt w b H t B l)(o:Obj):HashAt (w.alloc o) b H t B l:=h.block (Below.heap_alloc _ _ _ h.lt)
theorem HashAt.drew(h:HashAt w b H t B l):HashAt w.drew b H t B l:=h
theorem HashAt.st(h:HashAt w b H t B l):w.rangeAt b 0 (A9 .u32 8 H):=fun j v hj=>by
 obtain⟨hj2,rfl⟩:=B2 hj;rw[Ac9,h.at j (by omega)];unfold Ho;rw[if_pos hj2]
theorem HashAt.bk(h:HashAt w b H t B l):w.rangeAt b 9 (A9 .u8 64 B):=fun j v hj=>by
 obtain⟨hj2,rfl⟩:=B2 hj;rw[h.at (9+j) (by omega)];unfold Ho;rw[if_neg (by omega),if_neg (by omega),if_pos (by omega),AcJ]
theorem HashAt.taken(h:HashAt w b H t B l):w.cell? ⟨b,8,none⟩=some (.int .u64 t):=h.at 8 (by decide)
theorem HashAt.held(h:HashAt w b H t B l):w.cell? ⟨b,73,none⟩=some (.int .i64 l):=h.at 73 (by decide)
theorem HashAt.cells{o:Nat}(h:HashAt w b H t B l)(vs:List Value)(hl:o+vs.length≤74){H' B':Nat→Int}{t' l':Int}(h1:∀j,j<vs.length→vs[j]?=some (Ho H' t' B' l' (o+j)))(h2:∀i,i<74→i<o∨o+vs.length≤i→Ho H' t' B' l' i=Ho H t B l i):HashAt (w.setCells b o vs) b H' t' B' l'∧Only b w (w.setCells b o vs):=by
 obtain⟨C',k1,k2,k3,k4,k5⟩:=BC vs o w _ h (by rw[Hg];exact hl);refine⟨?_,k5⟩
 have e:C'=JB H' t' B' l':=by
  refine Pw (by rw[k2,Hg]) (fun i hi=>?_)
  by_cases c:i<o∨o+vs.length≤i
  ·rw[k4 i c,Jb _ _ _ _ i hi,h2 i hi c]
  ·have:=k3 (i-o) (by omega)
   rw[show o+(i-o)=i by omega] at this;rw[this,h1 (i-o) (by omega),show o+(i-o)=i by omega]
 unfold HashAt;rw[←e];exact k1
theorem HashAt.setSt(h:HashAt w b H t B l)(H':Nat→Int):HashAt (w.setCells b 0 (A9 .u32 8 H')) b H' t B l∧Only b w (w.setCells b 0 (A9 .u32 8 H')):=by
 refine h.cells (A9 .u32 8 H') (by rw[A2];omega) (fun j hj=>?_) (fun i hi hc=>?_)
 ·rw[A2] at hj
  rw[Bm .u32 8 H' hj];unfold Ho;rw[if_pos (by omega),Ac9]
 ·rw[A2] at hc
  have r:¬i<8:=by omega
  unfold Ho;rw[if_neg r,if_neg r]
theorem HashAt.setBk(h:HashAt w b H t B l)(o m:Nat)(r:Nat→Int)(hm:o+m≤64):HashAt (w.setCells b (9+o) (A9 .u8 m r)) b H t (over B o m r) l∧Only b w (w.setCells b (9+o) (A9 .u8 m r)):=by
 refine h.cells (A9 .u8 m r) (by rw[A2];omega) (fun j hj=>?_) (fun i hi hc=>?_)
 ·rw[A2] at hj
  rw[Bm .u8 m r hj];unfold Ho over;rw[if_neg (by omega),if_neg (by omega),if_pos (by omega),if_pos (by omega),show 9+o+j-9-o=j by omega]
 ·rw[A2] at hc
  unfold Ho over
  split
  ·rfl
  split
  ·rfl
  split
  ·rw[if_neg (by omega)]
  ·rfl
theorem HashAt.setTaken(h:HashAt w b H t B l)(t':Int):HashAt (w.setCell ⟨b,8,none⟩ (.int .u64 t')) b H t' B l:=by
 have h1:=(h.cells (o:=8) [.int .u64 t'] (by simp) (H':=H) (t':=t') (B':=B) (l':=l) (fun j hj=>by
  have:j=0:=by simpa using hj
  subst this
  rfl) (fun i hi hc=>by
   simp at hc;unfold Ho
   split
   ·rfl
   split
   ·omega
   ·rfl)).1
 exact h1
theorem HashAt.setHeld(h:HashAt w b H t B l)(l':Int):HashAt (w.setCell ⟨b,73,none⟩ (.int .i64 l')) b H t B l':=by
 have h1:=(h.cells (o:=73) [.int .i64 l'] (by simp) (H':=H) (t':=t) (B':=B) (l':=l') (fun j hj=>by
  have:j=0:=by simpa using hj
  subst this
  rfl) (fun i hi hc=>by
   simp at hc;unfold Ho
   split
   ·rfl
   split
   ·rfl
   split
   ·rfl
   ·omega)).1
 exact h1
theorem HashAt.congr{B':Nat→Int}(h:HashAt w b H t B l)(e:∀i,i<64→B i=B' i):HashAt w b H t B' l:=by
 have:JB H t B l=JB H t B' l:=Pw (Hg _ _ _ _) (fun i hi=>by
  rw[Jb _ _ _ _ i hi];unfold Ho
  split
  ·rfl
  split
  ·rfl
  split
  ·rw[e (i-9) (by omega)]
  ·rfl)
 unfold HashAt;rw[←this];exact h
end
theorem Gf(b:Nat){w w':World}(h:Below w.heap.size w w'):Touch (fun x=>x=b) w w':=⟨h.os,h.tape,h.output,h.size,fun k hk _=>h.block k hk⟩
theorem AaS(b k:Nat)(w:World):k<4→(Instr.fieldAt 197 (.pointer (some ⟨b,0,none⟩)) k).run prog w=.ok (.pointer (some ⟨b,[0,8,9,73].getD k 0,none⟩)) w:=by
 intro hk
 match k,hk with
 | 0,_=>simp[go_sem]
 | 1,_=>simp[go_sem]
 | 2,_=>simp[go_sem]
 | 3,_=>simp[go_sem]
theorem K2{a:Act}{o:Oper}{w:World}{x:Operand}{k:Nat}(ho:o.op=.fieldAddr 197 x k){b:Nat}(hx:a.eval x=.pointer (some ⟨b,0,none⟩))(hk:k<4):(execOp a.eval o).run prog w=.ok (.value (.pointer (some ⟨b,[0,8,9,73].getD k 0,none⟩))) w:=by
 have h:=AaS b k w hk;unfold execOp;simp only[ho,hx,Sem.run_bind,h,Result.andThen_ok,Sem.run_pure]
theorem QN{w:World}{p:Addr}{n:Int}(h:w.cell? p=some (.int .u64 n)):(Instr.loadAt 98 (.pointer (some p))).run prog w=.ok (.int .u64 n) w:=by
 simp[go_sem,h]
theorem Xy{o:Oper}{a:Act}{w:World}{K:Act→World→Prop}{Q:Exit→Act→World→Prop}{x y:Operand}(ho:o.op=.store 194 x y){b:Nat}{H B s:Nat→Int}{t l:Int}(hx:a.eval x=.pointer (some ⟨b,0,none⟩))(hy:a.eval y=.agg (WA .u32 8 s))(gm:HashAt w b H t B l)(h:∀w2,HashAt w2 b s t B l→Only b w w2→K (a.put o.dst undef) w2):o.wp prog a w K Q:=by
 obtain⟨_,_,_,h3⟩:=Mm;have h2:=gm.setSt s;exact wp_store_mid 194 x y ho b 0 (WA .u32 8 s) hx hy (fun j hj=>by rw[A5] at hj;exact⟨by rw[gm.at (0+j) (by omega)];rfl,gm.free _⟩) (by rw[A5];exact h3) (Fr .u32 8 s) (h _ h2.1 h2.2)
theorem Og(args:Array Value)(w:World):(callFunc 197 args).run prog w=.ok (.enter 197 args) w:=by kernel_rfl
theorem Px(b l:Nat)(H B:Nat→Int)(t:Int)(last:Bool)(w:World)(hTw:Tabs w)(hb2:3≤b)(gm:HashAt w b H t B (l:Int))(hH:∀i,i<8→W32 (H i))(hB:Byts 64 B)(ht:0≤t)(htl:t+(l:Int)<18446744073709551616)(hl:l≤64):Calls prog 172 #[.pointer (some ⟨b,0,none⟩),.bool last] w fun e w'=>e=.returned (.tuple #[])∧HashAt w' b (Bh H B (t+(l:Int)) last) (t+(l:Int)) B 0∧Touch (fun x=>x=b) w w':=by
 have HT:Hid (∀u,Touch (fun x=>x=b) w u→Tabs u):=Hid.mk (fun u hu=>hTw.touch hu hb2);have HTT:Hid (0≤t+(l:Int)∧t+(l:Int)<18446744073709551616):=Hid.mk (by omega);have ct:=gm.taken;have ch:=gm.held;have ft:=gm.free 8;have gm1:=gm.setTaken (t+(l:Int));have hT1:Touch (fun x=>x=b) w (w.setCell ⟨b,8,none⟩ (.int .u64 (t+(l:Int)))):=Ag only_set;clear gm;go_enter func172,ntmps172;go_wp2_with fail
 go_region
 go_wp2_with fail;refine AH (fun v=>HashAt v b H (t+(l:Int)) B (l:Int)∧Touch (fun x=>x=b) w v) ⟨gm1,by first | exact hT1.drew | exact hT1⟩ ?_;clear gm1 hT1 ct ch ft;rintro v0 ⟨gm,hT⟩;refine Ai (Touch (fun x=>x=b) w) v0.heap.size
  [(b,once (JB (H) (t+(l:Int)) B (l:Int)) 197 17 (JB (Bh H B (t+(l:Int)) last) (t+(l:Int)) B (l:Int)))]
  [kv (.pointer (some ⟨b,0,none⟩)),kv (.pointer (some ⟨b,0,none⟩)),kv (.pointer (some ⟨b,0,none⟩)),kv (.pointer (some ⟨b,0,none⟩)),kv (.agg (WA .u32 8 H)),kv (.pointer (some ⟨b,0,none⟩)),kv (.pointer (some ⟨b,0,none⟩)),kv (.pointer (some ⟨b,9,none⟩)),kv (.agg (WA .u8 64 B)),kv (.pointer (some ⟨b,0,none⟩)),kv (.pointer (some ⟨b,0,none⟩)),kv (.pointer (some ⟨b,8,none⟩)),kv (.int .u64 (t+(l:Int))),kv (.bool last),kv (.agg (WA .u32 8 (Bh H B (t+(l:Int)) last))),kv (.pointer (some ⟨b,0,none⟩)),kv (.pointer (some ⟨b,0,none⟩)),.val fun _=>True]
  [.none,.none,.none,.none,.none,.none,.none,.none,.none,.none,.none,.none,.none,.none,.none,.none,.none,.base 0 1]
  [some 16,some 17,some 18,some 19,some 20,some 21,some 22,some 23,some 24,some 25,some 26,some 27,some 28,some 29,some 30,some 31,some 32,none]
  [(0,.pointer (some ⟨b,0,none⟩)),(1,.bool last)]
  [[],[],[.slot 1],[.slot 2],[.slot 3,.base 0 0],[],[.slot 5],[.slot 6],[.slot 7,.base 0 0],[],[.slot 9],[.slot 10],[.slot 11,.base 0 0],[],[.slot 4,.slot 8,.slot 12,.slot 13],[.slot 0],[.slot 15],[.slot 16,.slot 14,.base 0 0]]
  [.base 0 1] [16,17,18,19,20,21,22,23,24,25,26,27,28,29,30,31,32]
  rfl (by kernel_rfl) ⟨rfl,rfl,trivial⟩ (Touch.drew hT) (Ac4 _) ⟨⟨gm.lt,Ao gm⟩,trivial⟩ ⟨trivial,trivial⟩ (Ca hT.size)
  ⟨
   sL fun f _=>sV (Ab rfl f.1),
   sL fun f _=>sV (Ab rfl f.1),
   sL fun _ k=>sV (AZ rfl k.1),
   sL fun _ kn=>sV (K2 (k:=0) rfl kn.1 (by decide)),
   sL fun _ k=>sV (Al rfl Mm k.1 (HashAt.st (Ak k.2.1))),
   sL fun f _=>sV (Ab rfl f.1),
   sL fun _ k=>sV (AZ rfl k.1),
   sL fun _ kn=>sV (K2 (k:=2) rfl kn.1 (by decide)),
   sL fun _ k=>sV (Al rfl Gm k.1 (HashAt.bk (Ak k.2.1))),
   sL fun f _=>sV (Ab rfl f.1),
   sL fun _ k=>sV (AZ rfl k.1),
   sL fun _ kn=>sV (K2 (k:=1) rfl kn.1 (by decide)),
   sL fun _ k=>sV (Au rfl k.1 (QN (HashAt.taken (Ak k.2.1)))),
   sL fun f _=>sV (Ab rfl f.2.1),
   (fun _ _ ww _ hS _ _ kn=>.inl ⟨trivial,fun K hK=>AD Og rfl (Iw kn.1 kn.2.1 kn.2.2.1 kn.2.2.2.1) (Pv H B _ last ww (HT.out ww hS) hH hB HTT.out) (fun w' hb=>hK _ _ ⟨Ad hb,rfl⟩)⟩),
   sL fun _ k=>sV (AZ rfl k.1),
   sL fun _ kn=>sV (K2 (k:=0) rfl kn.1 (by decide)),
   sL fun _ k=>.inl ⟨trivial,fun K hK=>Xy rfl k.1 k.2.1 (Ak k.2.2.1) (fun w2 hg ho=>hK _ _ ⟨⟨Ag ho,Ao hg⟩,trivial⟩)⟩,
   trivial⟩ ?_
 intro vs own v1 hT1 hs1 kn inj;clear inj hs1 gm hT;have gm:HashAt v1 b (Bh H B (t+(l:Int)) last) (t+(l:Int)) B (l:Int):=Ak kn.1;clear kn;simp only[Ap,Act.put,Ac6,Ac7,Ac5];have ch:=gm.held;have fh:=gm.free 73;have gm2:=gm.setHeld 0;go_wp2_with fail;refine bodyPost_end (results_none rfl _ _ _) rfl ?_;exact⟨rfl,gm2,hT1.trans (Ag only_set)⟩
theorem Xz{h:Nat→Int}{t:Int}(last:Bool)(hh:∀i,i<8→W32 (h i))(ht:0≤t∧t<18446744073709551616):∀i,i<16→W32 (Bs h t last i):=fun i hi=>by
 unfold Bs
 split
 ·exact hh i (by omega)
 split
 ·exact A8 (Gk 4) (by unfold W32;omega)
 split
 ·exact A8 (Gk 5) (by unfold W32;omega)
 split
 ·exact A8 (Gk 6) (by unfold W32;omega)
 ·exact Gk _
theorem QO{m v:Nat→Int}(h:∀i,i<16→W32 (v i)):∀k i,i<16→W32 (CN m v k i)
 | 0,i,hi=>h i hi
 | k+1,i,hi=>by
  have e:CN m v (k+1)=IW (CN m v k) (fun j=>m (ord k j)):=LI m k _;rw[e];exact QH (QO h k) i hi
theorem Z5{h s:Nat→Int}{t:Int}(last:Bool)(hh:∀i,i<8→W32 (h i))(ht:0≤t∧t<18446744073709551616):∀i,i<8→W32 (Bh h s t last i):=fun i hi =>
 A8 (A8 (hh i hi) (QO (Xz last hh ht) 10 i (by omega))) (QO (Xz last hh ht) 10 (i+8) (by omega))
theorem Sb{all:ByteArray}{h0:Nat→Int}(hh:∀i,i<8→W32 (h0 i)):∀k,k≤144115188075855872→∀i,i<8→W32 (stF all h0 k i)
 | 0,_=>hh
 | k+1,hk=>Z5 _ (Sb hh k (by omega)) (by omega)
structure HashK (w:World) (b:Nat) (all:ByteArray) (h0:Nat→Int) (k h:Nat) (B:Nat→Int):Prop where
 at':HashAt w b (stF all h0 k) ((64*k:Nat):Int) B (h:Int)
 bs:Byts 64 B
 eq:∀j,j<h→B j=txt all (64*k+j)
def HashN(w:World)(b:Nat)(all:ByteArray)(h0:Nat→Int)(n:Nat):Prop:=∃k h B,64*k+h=n∧h≤64∧(h=0→k=0)∧HashK w b all h0 k h B
theorem HashK.block{w w':World}{b:Nat}{all:ByteArray}{h0:Nat→Int}{k h:Nat}{B:Nat→Int}(g:HashK w b all h0 k h B)(e:w'.heap[b]?=w.heap[b]?):HashK w' b all h0 k h B:=⟨g.at'.block e,g.bs,g.eq⟩
theorem HashN.block{w w':World}{b:Nat}{all:ByteArray}{h0:Nat→Int}{n:Nat}(g:HashN w b all h0 n)(e:w'.heap[b]?=w.heap[b]?):HashN w' b all h0 n:=by
 obtain⟨k,h,B,h1,h2,h3,h4⟩:=g;exact⟨k,h,B,h1,h2,h3,h4.block e⟩
theorem HashN.lt{w:World}{b:Nat}{all:ByteArray}{h0:Nat→Int}{n:Nat}(g:HashN w b all h0 n):b<w.heap.size:=by
 obtain⟨k,h,B,h1,h2,h3,h4⟩:=g;exact h4.at'.lt
theorem HashN.kept{w w':World}{b:Nat}{all:ByteArray}{h0:Nat→Int}{n:Nat}(g:HashN w b all h0 n)(hb:Below w.heap.size w w'):HashN w' b all h0 n:=g.block (hb.block b g.lt)
theorem Z6{all:ByteArray}{h0:Nat→Int}{k:Nat}(h:64*k+64<all.size):Bh (stF all h0 k) (fun j=>txt all (64*k+j)) (((64*k:Nat):Int)+((64:Nat):Int)) false=stF all h0 (k+1):=by
 have e1:min 64 (all.size-64*k)=64:=by omega
 show _=Bh (stF all h0 k) (fun j=>txt all (64*k+j)) ((64*k+min 64 (all.size-64*k):Nat):Int) (decide (64*k+min 64 (all.size-64*k)=all.size));rw[e1,decide_eq_false (by omega)];rfl
theorem Z7{all:ByteArray}{h0:Nat→Int}{k h:Nat}(e:64*k+h=all.size)(h64:h≤64)(hz:h=0→k=0):Bh (stF all h0 k) (fun j=>txt all (64*k+j)) (((64*k:Nat):Int)+(h:Int)) true=stF all h0 (nbF all.size):=by
 have e1:min 64 (all.size-64*k)=h:=by omega
 have e2:nbF all.size=k+1:=by
  unfold nbF
  split<;>omega
 rw[e2];show _=Bh (stF all h0 k) (fun j=>txt all (64*k+j)) ((64*k+min 64 (all.size-64*k):Nat):Int) (decide (64*k+min 64 (all.size-64*k)=all.size));rw[e1,decide_eq_true e];rfl
theorem Gg(s:ByteArray)(j:Nat)(h:s.size≤j):txt s j=0:=by
 unfold txt;have:s.data.toList.length≤j:=by simpa using h
 rw[Ade,AcV this];rfl
theorem JC{w:World}{b h m dC:Nat}{H B:Nat→Int}{t l:Int}(ty:TypeId)(s:ByteArray)(gm:HashAt w b H t B l)(hm:m=min s.size (64-h)):(Builtin.copy_ #[81,9] ty #[.slice (some ⟨b,9+h,none⟩) (64-h) dC,.string s]).run prog w=.ok (goInt m) (w.setCells b (9+h) (A9 .u8 m (txt s))):=by
 have hmin:Nat.min s.size (64-h)=m:=hm.symm
 have hst:=run_storeCells_cells (P:=prog) b (9+h) (A9 .u8 m (txt s)) 0 w (by
   intro j hj;rw[A2] at hj;rw[AcU,gm.at _ (by omega)];rfl) (fun j _=>gm.free _) EQ
 simp[Builtin.copy_,run_underlying underlying81,Builtin.lenOf,Builtin.firstCells,hmin];rw[Mu s m (by omega),hst];rfl
theorem X5(ts:Nat→ByteArray){i cnt:Nat}(hi:i<cnt){j:Nat}(hj:j<(ts i).size):txt (AX ts cnt) ((AX ts i).size+j)=txt (ts i) j:=by
 induction cnt with
 | zero=>omega
 | succ n ih =>
  rw[AX,ES]
  by_cases e:i=n
  ·subst e
   rw[if_neg (by omega),AcJ]
  ·have h1:=KE ts (show i+1≤n by omega)
   rw[AX,ByteArray.size_append] at h1;rw[if_pos (by omega)];exact ih (by omega)
theorem X6(b l:Nat)(w:World)(hl:l<64):(Instr.sliceAt 183 (.pointer (some ⟨b,9,none⟩)) (some (.int .i64 (l:Int))) none none).run prog w=.ok (.slice (some ⟨b,9+l,none⟩) (64-l) (64-l)) w:=by
 rw[run_sliceAt_array_l (P:=prog) w 183 ⟨b,9,none⟩ underlying183 .i64 (l:Int) (by omega) (by rw[Hq];omega),FL,Hq];simp only[Result.andThen_ok,slicedAt,AcZ,Nat.mul_one];rw[if_neg (by omega),Addr.add_lit]
theorem AbV(b:Nat)(w:World):(Instr.sliceAt 183 (.pointer (some ⟨b,9,none⟩)) (some (.int .i64 64)) none none).run prog w=.ok (.slice (some ⟨b,9,none⟩) 0 0) w:=by
 rw[run_sliceAt_array_l (P:=prog) w 183 ⟨b,9,none⟩ underlying183 .i64 64 (by omega) (by rw[Hq];omega),FL,Hq];rfl
theorem LR(b:Nat)(all:ByteArray)(h0:Nat→Int)(n0:Nat)(v:Value)(cnt:Nat)(ts:Nat→ByteArray)(w:World)(hTw:Tabs w)(hb2:3≤b)(hN:HashN w b all h0 n0)(h0w:∀i,i<8→W32 (h0 i))(hsz0:all.size≤1152921504606846976)(hv:∀w',Touch (fun x=>x=b) w w'→Strs w' v cnt ts)(hcn:cnt<4611686018427387904)(hfit:n0+(AX ts cnt).size≤all.size)(heq:∀j,j<(AX ts cnt).size→txt all (n0+j)=txt (AX ts cnt) j):Calls prog 142 #[.pointer (some ⟨b,0,none⟩),v] w fun e w'=>e=.returned (.tuple #[])∧HashN w' b all h0 (n0+(AX ts cnt).size)∧Touch (fun x=>x=b) w w':=by
 obtain⟨a,c,rfl,hp⟩:=hv w (Touch.refl _ _);have HV:=Hid.mk hv;clear hv hp;have HTw:Hid (∀u,Touch (fun x=>x=b) w u→Tabs u):=Hid.mk (fun u hu=>hTw.touch hu hb2);have HEQ:=Hid.mk heq;clear heq hTw;go_enter func142,ntmps142;go_wp2_with fail
 go_loopg [9] cnt (fun gm iv v=>∃i:Nat,Hid (gm+i=cnt)∧iv=.int .i64 (i:Int)∧HashN v b all h0 (n0+(AX ts i).size)∧Touch (fun x=>x=b) w v)
 case atStart=>exact⟨0,Hid.mk rfl,rfl,hN,Touch.refl _ _⟩
 case round =>
  clear hN;obtain⟨i,HI,rfl,hN,ht⟩:=hrel;have hin:i≤cnt:=by have:=HI.out;omega
  by_cases hil:i<cnt
  ·obtain⟨a',c',e,hp⟩:=HV.out wr ht
   simp only[Value.slice.injEq] at e;obtain⟨rfl,_,rfl⟩:=e;obtain⟨p,rfl,hc⟩:=hp (by omega);have hc1:=hc i hil;clear hc hp;obtain⟨s,hs⟩:∃s,ts i=s:=⟨_,rfl⟩;obtain⟨n,hn⟩:∃n,n0+(AX ts i).size=n:=⟨_,rfl⟩;have hjs:(AX ts (i+1)).size=(AX ts i).size+s.size:=by rw[AX,ByteArray.size_append,hs]
   have hjm:=KE ts (show i+1≤cnt from hil);have HF:Hid (n+s.size≤all.size):=Hid.mk (by omega)
   have HA:Hid (∀j,j<s.size→txt all (n+j)=txt s j):=Hid.mk (fun j hj=>by
    have h1:=HEQ.out ((AX ts i).size+j) (by omega);rw[←Nat.add_assoc,hn] at h1;rw[h1,X5 ts hil (by rw[hs];exact hj),hs])
   have HNX:Hid (n+s.size=n0+(AX ts (i+1)).size):=Hid.mk (by omega);rw[hn] at hN;rw[hs] at hc1;clear hjs hjm hn hs;have hd:decide ((i:Int)<(cnt:Int))=true:=by simp;omega
   go_wp2_with fail;generalize wr=wo at *;generalize gk=gz at *;clear hc1
   go_loopg [5] s.size (fun gm pv v=>∃q:Nat,Hid (gm+q=s.size)∧pv=.string (s.extract q s.size)∧HashN v b all h0 (n+q)∧Touch (fun x=>x=b) w v)
   case atStart=>exact⟨0,Hid.mk rfl,by simp,hN,ht⟩
   case round =>
    clear hN ht;obtain⟨q,HK,rfl,hN,ht⟩:=hrel;have hks:q≤s.size:=by have:=HK.out;omega
    have hsz:=Cc s q;obtain⟨t,ht0⟩:∃t,s.extract q s.size=t:=⟨_,rfl⟩;rw[ht0] at hsz;rw[ht0]
    by_cases hkl:q<s.size
    ·have hpos:(0:Int)<(t.size:Int):=by omega
     obtain⟨k,h,B,e1,e2,e3,gK⟩:=hN
     by_cases h64:h=64
     ·subst h64
      have gm:=gK.at';have hch:=gm.held;have hkb:64*k+64<all.size:=by have:=HF.out;omega
      have gmc:=gm.congr (B':=fun j=>txt all (64*k+j)) gK.eq;have hfd:((((64:Nat):Int))==64)=true:=rfl;go_wp2_with fail;refine(Px b 64 _ _ _ false _ (HTw.out _ ht) hb2 gmc (Sb h0w k (by omega)) (fun j _=>B5 _ _) (by omega) (by omega) (Ac4 _)).mono ?_;rintro e v7 ⟨rfl,gm7,ht7⟩;rw[Z6 hkb] at gm7;replace ht7:=ht.trans ht7;clear ht gmc gm hch gK e2 e3 hfd;obtain⟨k',hk'⟩:∃k',k+1=k':=⟨_,rfl⟩;have HBS:Hid (Byts 64 (fun j=>txt all (64*k+j))):=Hid.mk (fun j _=>B5 _ _);generalize (fun j=>txt all (64*k+j))=B' at *;rw[hk',show (((64*k:Nat):Int)+((64:Nat):Int))=((64*k':Nat):Int) by omega] at gm7;have e1':64*k' + 0=n+q:=by omega
      clear e1 hk' hkb;clear B k;obtain⟨k,rfl⟩:∃k,k=k':=⟨_,rfl⟩;obtain⟨B,rfl⟩:∃B,B=B':=⟨_,rfl⟩;obtain⟨h,hh0⟩:∃h:Nat,h=0:=⟨_,rfl⟩;have gm:HashAt v7 b (stF all h0 k) ((64*k:Nat):Int) B (h:Int):=by rw[hh0];exact gm7
      have HH0:=Hid.mk hh0;have hh64:h<64:=by omega
      have e1:64*k+h=n+q:=by omega
      have HE:Hid (∀j,j<h→B j=txt all (64*k+j)):=Hid.mk (fun j hj=>by omega);clear gm7 e1' hh0;have HT:Hid (∀j,q+j<s.size→txt t j=txt all (64*k+(h+j))):=Hid.mk (fun j hj=>by rw[←ht0,B6 s q j hj,←HA.out (q+j) hj];congr 1;omega);obtain⟨m,hm⟩:∃m,m=min t.size (64-h):=⟨_,rfl⟩;have hsl:=fun v=>X6 b h v hh64
      have hcp2:=JC (dC:=64-h) 3 t gm.drew hm;have hch:=gm.held;have hset:=gm.drew.setBk h m (txt t) (by omega)
      have HX:Hid (t.extract m t.size=s.extract (q+m) s.size):=Hid.mk (by
       have h1:(t.extract m t.size).size=s.size-(q+m):=by rw[Cc];omega
       have h2:=Cc s (q+m);rw[←DZ (t.extract m t.size),←DZ (s.extract (q+m) s.size),h1,h2];refine GO (fun j hj=>?_);rw[B6 t m j (by omega),B6 s (q+m) j (by omega),←ht0,B6 s q (m+j) (by omega),Nat.add_assoc])
      have HO:Hid (∀j,j<h+m→over B h m (txt t) j=txt all (64*k+j)):=Hid.mk (fun j hj=>by
       unfold over
       split
       ·rw[HT.out (j-h) (by omega)]
        congr 1;omega
       ·exact HE.out j (by omega))
      have HB:Hid (Byts 64 (over B h m (txt t))):=Hid.mk (fun i hi=>by
       unfold over
       split
       ·exact B5 t _
       ·exact HBS.out i hi)
      have hmt:(m:Int)≤(t.size:Int):=by omega
      have hm1:1≤m∧q+m≤s.size∧h+m≤64:=by omega
      have hwr:=Cf (n:=(h:Int)+(m:Int)) (by omega) (by omega);have HZ:=Hid.mk hsz;have HM:=Hid.mk hm;clear hsz hm HT ht0;generalize gk=gz at *;go_wp2_with fail
      go_region
      generalize over B h m (txt t)=B' at *;generalize v7.drew.setCells b (9+h) (A9 .u8 m (txt t))=v5 at *;obtain⟨gm5,o5⟩:=hset;have ht5:Touch (fun x=>x=b) w v5:=(Touch.drew ht7).trans (Ag o5);clear hcp2 hsl o5 gm hch ht7;have hch:=gm5.held;have hcf:=gm5.free 73;have gm6:=gm5.setHeld ((h:Int)+(m:Int));have ht6:Touch (fun x=>x=b) w (v5.setCell ⟨b,73,none⟩ (.int .i64 ((h:Int)+(m:Int)))):=ht5.trans (Ag only_set);go_wp2_with fail
      go_roundg (s.size-(q+m))
      case rel=>exact⟨q+m,Hid.mk (by omega),congrArg Value.string HX.out,⟨k,h+m,B',by omega,by omega,by omega,⟨by rw[show ((h+m:Nat):Int)=(h:Int)+(m:Int) by omega];exact gm6,HB.out,HO.out⟩⟩,ht6⟩
      case measure=>have:=HK.out;omega
     ·have gm:=gK.at'
      have HE:=Hid.mk gK.eq;have HBS:=Hid.mk gK.bs;have hh64:h<64:=by omega
      have hfi:¬((h:Int)=64):=by omega
      have hfd:((h:Int)==64)=false:=by simpa using hfi
      have HT:Hid (∀j,q+j<s.size→txt t j=txt all (64*k+(h+j))):=Hid.mk (fun j hj=>by rw[←ht0,B6 s q j hj,←HA.out (q+j) hj];congr 1;omega);have HE3:=Hid.mk e3;clear gK e2 e3 h64;obtain⟨m,hm⟩:∃m,m=min t.size (64-h):=⟨_,rfl⟩;have hsl:=fun v=>X6 b h v hh64
      have hcp2:=JC (dC:=64-h) 3 t gm.drew hm;have hch:=gm.held;have hset:=gm.drew.setBk h m (txt t) (by omega)
      have HX:Hid (t.extract m t.size=s.extract (q+m) s.size):=Hid.mk (by
       have h1:(t.extract m t.size).size=s.size-(q+m):=by rw[Cc];omega
       have h2:=Cc s (q+m);rw[←DZ (t.extract m t.size),←DZ (s.extract (q+m) s.size),h1,h2];refine GO (fun j hj=>?_);rw[B6 t m j (by omega),B6 s (q+m) j (by omega),←ht0,B6 s q (m+j) (by omega),Nat.add_assoc])
      have HO:Hid (∀j,j<h+m→over B h m (txt t) j=txt all (64*k+j)):=Hid.mk (fun j hj=>by
       unfold over
       split
       ·rw[HT.out (j-h) (by omega)]
        congr 1;omega
       ·exact HE.out j (by omega))
      have HB:Hid (Byts 64 (over B h m (txt t))):=Hid.mk (fun i hi=>by
       unfold over
       split
       ·exact B5 t _
       ·exact HBS.out i hi)
      have hmt:(m:Int)≤(t.size:Int):=by omega
      have hm1:1≤m∧q+m≤s.size∧h+m≤64:=by omega
      have hwr:=Cf (n:=(h:Int)+(m:Int)) (by omega) (by omega);have HZ:=Hid.mk hsz;have HM:=Hid.mk hm;clear hsz hm HT ht0;generalize gk=gz at *;go_wp2_with fail
      go_region
      generalize over B h m (txt t)=B' at *;generalize wr.drew.setCells b (9+h) (A9 .u8 m (txt t))=v5 at *;obtain⟨gm5,o5⟩:=hset;have ht5:Touch (fun x=>x=b) w v5:=(Touch.drew ht).trans (Ag o5);clear hcp2 hsl o5 gm hch ht;have hch:=gm5.held;have hcf:=gm5.free 73;have gm6:=gm5.setHeld ((h:Int)+(m:Int));have ht6:Touch (fun x=>x=b) w (v5.setCell ⟨b,73,none⟩ (.int .i64 ((h:Int)+(m:Int)))):=ht5.trans (Ag only_set);go_wp2_with fail
      go_roundg (s.size-(q+m))
      case rel=>exact⟨q+m,Hid.mk (by omega),congrArg Value.string HX.out,⟨k,h+m,B',by omega,by omega,by omega,⟨by rw[show ((h+m:Nat):Int)=(h:Int)+(m:Int) by omega];exact gm6,HB.out,HO.out⟩⟩,ht6⟩
      case measure=>have:=HK.out;omega
    ·have hk2:q=s.size:=by omega
     subst hk2;have hz0:t.size=0:=by omega
     rw[HNX.out] at hN;clear HNX HA HF;go_wp2_with fail
     go_roundg (cnt-(i+1))
     case rel=>exact⟨i+1,Hid.mk (by omega),by go_num,hN,ht⟩
     case measure=>have:=HI.out;omega
  ·have hi2:i=cnt:=by omega
   subst hi2;go_wp2_with fail
   go_end0
   exact⟨rfl,hN,ht⟩
end Go.Proofs.YthghcjepdhkfdaaGreatDoor
