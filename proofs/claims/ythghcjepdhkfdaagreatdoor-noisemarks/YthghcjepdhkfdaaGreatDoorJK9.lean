/-
  Own text. What step and Times of package curve give: the ladder's step, X25519 as a number.
-/
import Derived.Test.YthghcjepdhkfdaaGreatDoorJK8
import Derived.Test.YthghcjepdhkfdaaGreatDoorJK7
import Derived.Test.YthghcjepdhkfdaaGreatDoorJK2
set_option maxHeartbeats 16000000
set_option maxRecDepth 100000
namespace Go.Proofs.YthghcjepdhkfdaaGreatDoor.Fld
open Go.RowKit Go.Proofs
def RG (q:Qd pN) (V:Value):Prop:=∃ x z v w,V=.agg (Q4 x z v w)∧N256 x∧N256 z∧N256 v∧N256 w∧QI x z v w=q
def RGo (q:Qd pN) (ob:Obj):Prop:=∃ x z v w,ob=.cells (Q4 x z v w) 136 (0,0)∧N256 x∧N256 z∧N256 v∧N256 w∧QI x z v w=q
theorem RG_of (x z v w:Int) (hx:N256 x) (hz:N256 z) (hv:N256 v) (hw:N256 w):RG (QI x z v w) (.agg (Q4 x z v w)):=⟨x,z,v,w,rfl,hx,hz,hv,hw,rfl⟩
theorem turn_QI (b:Bool) (x z v w:Int):QI (tb b x v) (tb b z w) (tb b v x) (tb b w z)=Qd.turn b (QI x z v w):=by cases b<;>rfl
theorem swapped_rg (b:Bool) (q:Qd pN) (V:Value) (hV:RG q V) (wd:World) :
  Calls Tryz.prog 134 #[V,.int .u8 (bI b)] wd fun e w'=>∃ v,e=.returned v∧RG (Qd.turn b q) v∧Below wd.heap.size wd w':=by
 obtain ⟨x,z,v,w,rfl,hx,hz,hv,hw,rfl⟩:=hV
 refine (swapped_any b x z v w wd).mono ?_
 rintro e w' ⟨rfl,hb⟩
 exact ⟨_,rfl,⟨_,_,_,_,rfl,tb_256 hx hv,tb_256 hz hw,tb_256 hv hx,tb_256 hw hz,turn_QI b x z v w⟩,hb⟩
theorem climbed_rg (u:Int) (q:Qd pN) (V:Value) (hV:RG q V) (wd:World) (hP:PrimeAt wd) (Nu:N256 u) :
  Calls Tryz.prog 135 #[V,.agg (BA u)] wd fun e w'=>∃ v,e=.returned v∧RG (Qd.core kN (ofI u) q) v∧Below wd.heap.size wd w':=by
 obtain ⟨x,z,v,w,rfl,hx,hz,hv,hw,rfl⟩:=hV
 refine (climbed_any x z v w u wd hP hx hz hv hw Nu).mono ?_
 rintro e w' ⟨⟨x',z',v',w2,rfl,h1,h2,h3,h4,h5⟩,hb⟩
 exact ⟨_,rfl,⟨_,_,_,_,rfl,h1,h2,h3,h4,h5⟩,hb⟩
theorem stepp2 {f:FuncId} (hc:∀ args w,(callFunc f args).run Tryz.prog w=.ok (.enter f args) w) {x y:Operand} {ts:Array TypeId} {o:Oper} {a:Act} {w:World} {K:Act→World→Prop} {Q:Exit→Act→World→Prop} {p:Value→Prop}
  (ho:o.op=.call { callee:=.value (.func f),args:=#[x,y],argTypes:=ts }) {V V2:Value} (hx:a.eval x=V) (hy:a.eval y=V2) (hC:Calls Tryz.prog f #[V,V2] w fun r w'=>∃ v,r=.returned v∧p v∧Below w.heap.size w w')
  (h:∀ v w',p v→Below w.heap.size w w'→K (a.put o.dst v) w'):o.wp Tryz.prog a w K Q:=by
 refine wp_enter (exec_call hc #[x,y] ts ho) ?_
 simp only[List.map_toArray,List.map_cons,List.map_nil,hx,hy]
 exact hC.mono (fun e w' ⟨v,he,hp,hb⟩=>⟨v,he,h v w' hp hb⟩)
theorem stepp3 {f:FuncId} (hc:∀ args w,(callFunc f args).run Tryz.prog w=.ok (.enter f args) w) {x y z:Operand} {ts:Array TypeId} {o:Oper} {a:Act} {w:World} {K:Act→World→Prop} {Q:Exit→Act→World→Prop} {p:Value→Prop}
  (ho:o.op=.call { callee:=.value (.func f),args:=#[x,y,z],argTypes:=ts }) {V V2 V3:Value} (hx:a.eval x=V) (hy:a.eval y=V2) (hz:a.eval z=V3) (hC:Calls Tryz.prog f #[V,V2,V3] w fun r w'=>∃ v,r=.returned v∧p v∧Below w.heap.size w w')
  (h:∀ v w',p v→Below w.heap.size w w'→K (a.put o.dst v) w'):o.wp Tryz.prog a w K Q:=by
 refine wp_enter (exec_call hc #[x,y,z] ts ho) ?_
 simp only[List.map_toArray,List.map_cons,List.map_nil,hx,hy,hz]
 exact hC.mono (fun e w' ⟨v,he,hp,hb⟩=>⟨v,he,h v w' hp hb⟩)
theorem enterSwapped (args:Array Value) (w:World):(callFunc 134 args).run Tryz.prog w=.ok (.enter 134 args) w:=by kernel_rfl
theorem enterClimbed (args:Array Value) (w:World):(callFunc 135 args).run Tryz.prog w=.ok (.enter 135 args) w:=by kernel_rfl
theorem enterStep (args:Array Value) (w:World):(callFunc 101 args).run Tryz.prog w=.ok (.enter 101 args) w:=by kernel_rfl
theorem enterBitOf (args:Array Value) (w:World):(callFunc 102 args).run Tryz.prog w=.ok (.enter 102 args) w:=by kernel_rfl
theorem act_rg {a:Act} {o:Oper} {wd:World} {K:Act→World→Prop} {Q:Exit→Act→World→Prop} {X Y:Operand} (ho:o.op=.store 136 X Y)
  {g:Nat} (hx:a.eval X=.pointer (some ⟨g,0,none⟩)) {q:Qd pN} (hy:RG q (a.eval Y)) {x z v w:Int} (hg:wd.heap[g]?=some (.cells (Q4 x z v w) 136 (0,0)))
  (h:∀ w2,ContOK (RGo q) w2 g→Only g wd w2→K (a.put o.dst undef) w2):o.wp Tryz.prog a wd K Q:=by
 obtain ⟨x',z',v',w',e,h1,h2,h3,h4,h5⟩:=hy
 exact act_rungs ho hx e hg (Q4_size _ _ _ _) (fun w2 hg2 ho2=>h w2 ⟨_,hg2,x',z',v',w',rfl,h1,h2,h3,h4,h5⟩ ho2)
theorem exec_sub254 {a:Act} {o:Oper} {w:World} {x:Operand} (ho:o.op=.binOp .sub 3 (.const (.int .i64 254)) x 3) {n:Nat} (hx:a.eval x=.int .i64 (n:Int)) (hn:n≤255):(execOp a.eval o).run Tryz.prog w=.ok (.value (.int .i64 (254-(n:Int)))) w:=by
 have h:IntKind.i64.wrap (254-(n:Int))=254-(n:Int):=by rw[IntKind.wrap_i64];omega
 unfold execOp
 simp only[ho,hx]
 simp[Act.eval,go_sem,h]
theorem step_rg (u:Int) (b:Bool) (q:Qd pN) (VV:Value) (hV:RG q VV) (wd:World) (hP:PrimeAt wd) (Nu:N256 u) :
  Calls Tryz.prog 101 #[VV,.int .u8 (bI b),.agg (BA u)] wd fun e w'=>∃ v,e=.returned v∧RG (Qd.step kN (ofI u) b q) v∧Below wd.heap.size wd w':=by
 have hV0:=hV
 obtain ⟨x,z,v,w,rfl,-⟩:=hV0
 have hz:=primeAt_pos hP
 have hzero:=zero_rungs
 have HP:=Hid.mk hP
 clear hP
 go_enter Tryz.func101,Tryz.ntmps101
 go_wp2_with fail
 refine wp_gen (fun v0=>v0.heap[wd.heap.size]?=some (.cells (Q4 x z v w) 136 (0,0))∧v0.heap[wd.heap.size+1]?=some (.cells (BA u) 22 (0,0))∧v0.heap[wd.heap.size+1+1]?=some (.cells (Q4 0 0 0 0) 136 (0,0))∧Keep wd v0)
  ⟨heap_a31 wd _ _ _,heap_a32 wd _ _ _,heap_a3 wd _ _ _,keep_below hz ⟨Below.refl _ _,HP.out⟩ (by repeat first | exact Below.refl _ _ | refine Below.alloc ?_ (by simp<;>omega) _)⟩ ?_
 rintro v0 ⟨g3,g5,g6,hK⟩
 clear hzero HP
 refine wp_region3 (Keep wd) v0.heap.size
  [(wd.heap.size,fixd (Q4 x z v w) 136),((wd.heap.size+1),fixd (BA u) 22),((wd.heap.size+1+1),⟨isOb (Q4 0 0 0 0) 136,[(7,RGo (Qd.step kN (ofI u) b q))]⟩)]
  [kv (.agg (Q4 x z v w)),kv (.int .u8 (bI b)),.val (RG (Qd.turn b q)),kv (.agg (BA u)),.val (RG (Qd.core kN (ofI u) (Qd.turn b q))),kv (.int .u8 (bI b)),.val (RG (Qd.step kN (ofI u) b q)),.val fun _=>True]
  [.none,.none,.none,.none,.none,.none,.none,.base 2 1]
  [some 7,some 8,some 9,some 10,some 11,some 12,some 13,none]
  [(1,.int .u8 (bI b)),(3,.pointer (some ⟨wd.heap.size,0,none⟩)),(5,.pointer (some ⟨(wd.heap.size+1),0,none⟩)),(6,.pointer (some ⟨(wd.heap.size+1+1),0,none⟩))]
  [[.base 0 0],[],[.slot 0,.slot 1],[.base 1 0],[.slot 2,.slot 3],[],[.slot 4,.slot 5],[.base 2 0,.slot 6]]
  [.base 2 1] [7,8,9,10,11,12,13]
  rfl (by kernel_rfl) ⟨rfl,rfl,rfl,rfl,trivial⟩ (keep_drew hK) (Nat.le_refl _) ⟨⟨heap_lt g3,obIn g3⟩,⟨heap_lt g5,obIn g5⟩,⟨heap_lt g6,obIn g6⟩,trivial⟩ ⟨⟨trivial,(show (wd.heap.size:Nat)≠(wd.heap.size+1+1) from by omega),trivial⟩,⟨(show ((wd.heap.size+1):Nat)≠(wd.heap.size+1+1) from by omega),trivial⟩,trivial,trivial⟩ (keep_G hz hK.1.size ⟨by omega,by omega,by omega,trivial⟩)
  ⟨
   (fun _ _ _ _ _ _ fr kn=>sV (look_rungs rfl fr.2.1 (obAt kn.1))),
   (fun _ _ _ _ _ _ fr _=>.inl ⟨trivial,fun K hK=>wp_value (exec_move _ rfl) (hK _ _ ⟨Touch.refl _ _,fr.1⟩)⟩),
   (fun _ _ ww _ _ _ _ kn=>.inl ⟨trivial,fun K hK=>stepp2 enterSwapped rfl kn.1 kn.2.1 (swapped_rg b q _ hV ww) (fun v w' hp hb=>hK _ _ ⟨touch_below hb,hp⟩)⟩),
   (fun _ _ _ _ _ _ fr kn=>sV (lookb rfl fr.2.2.1 (obAt kn.1))),
   (fun _ _ ww _ hS _ _ kn=>.inl ⟨trivial,fun K hK=>stepp2 enterClimbed rfl rfl kn.2.1 (climbed_rg u _ _ kn.1 ww hS.2 Nu) (fun v w' hp hb=>hK _ _ ⟨touch_below hb,hp⟩)⟩),
   (fun _ _ _ _ _ _ fr _=>.inl ⟨trivial,fun K hK=>wp_value (exec_move _ rfl) (hK _ _ ⟨Touch.refl _ _,fr.1⟩)⟩),
   (fun _ _ ww _ _ _ _ kn=>.inl ⟨trivial,fun K hK=>stepp2 enterSwapped rfl rfl kn.2.1 (swapped_rg b _ _ kn.1 ww) (fun v w' hp hb=>hK _ _ ⟨touch_below hb,hp⟩)⟩),
   (fun _ _ _ _ _ _ fr kn=>.inl ⟨trivial,fun K hK=>act_rg rfl fr.2.2.2.1 kn.2.1 (obAt kn.1) (fun w2 hg ho=>hK _ _ ⟨⟨touch_only ho,hg⟩,trivial⟩)⟩),
   trivial⟩ ?_
 intro vs own v1 hK1 hs1 kn inj
 obtain ⟨ob,g6,x',z',v',w',rfl,h1,h2,h3,h4,h5⟩:=kn.1
 simp only[putAll,Act.put,List.setIfInBounds_toArray,List.set_cons_zero,List.set_cons_succ]
 go_wp2
 exact bodyPost_ret (v:=.agg (Q4 x' z' v' w')) (results_cell_row rfl _ _ _ _ _ _ _ rfl g6 Tryz.underlying136 rfl (by rw[Q4_size];exact info128r)) rfl
  ⟨_,rfl,⟨_,_,_,_,rfl,h1,h2,h3,h4,h5⟩,hK1.1⟩
theorem of1:(1:Int)%P255=1:=by decide +kernel
theorem of0:(0:Int)%P255=0:=by decide +kernel
theorem mult_any (k u:Int) (w:World) (hP:PrimeAt w) (hk:N256 k) :
  Calls Tryz.prog 57 #[.agg (BA k),.agg (BA u)] w fun e w'=>e=.returned (.agg (BA (tN k u)))∧Below w.heap.size w w':=by
 have hz:=primeAt_pos hP
 have HP:=Hid.mk hP
 have HK:=Hid.mk hk
 have HL:=Hid.mk (BA_low u)
 have hx0:N256 (u%W255):=by unfold N256 W256 W255;omega
 have HX0:=Hid.mk hx0
 have hb31:=byt_byte u 31
 unfold Byte at hb31
 obtain ⟨hb310,hb311⟩:=hb31
 have e127:=and127_u8 (byt u 31) hb310 hb311
 clear hk hx0 hP
 go_enter Tryz.func57,Tryz.ntmps57
 go_wp2_with (refine ld_bytes rfl _ rfl _ _ rfl (heap_a31 w _ _ _) (BA_size _) ?_)
 refine (clamp_any k _ HK.out).mono ?_
 rintro e v1 ⟨rfl,hb1⟩
 have gk:=bheap hb1 (heap_a31 w _ _ _) (by simp<;>omega)
 have gu:=bheap hb1 (heap_a32 w _ _ _) (by simp<;>omega)
 have gz:=bheap hb1 (heap_a3 w _ _ _) (by simp<;>omega)
 have hB:Below w.heap.size w v1:=by
  refine Below.trans ?_ (hb1.mono (by simp<;>omega))
  repeat first | exact Below.refl _ _ | refine Below.alloc ?_ (by simp<;>omega) _
 clear hb1
 go_wp2_with (refine st_bytesS (by rfl) (by rfl) gk (BA_size _) ?_;intro v2 gk2 o2;refine Hid.out ?_)
 replace gu:=(o2.block _ (by omega)).trans gu
 replace gz:=(o2.block _ (by omega)).trans gz
 replace hB:=Below.trans hB (Only.below (b:=w.heap.size) (B:=w.heap.size) o2 (Nat.le_refl _))
 clear gk o2
 refine Hid.mk ?_
 have cu:=(cell_of_row v2 (w.heap.size+1) 31 _ _ _ gu).trans (BA_get u 31 (by omega))
 have fu:=frozen_of_row v2 (w.heap.size+1) 31 _ _ gu
 generalize byt u 31=x31 at *
 go_wp2_with (refine ld_bytes rfl _ rfl (w.heap.size+1) _ rfl (heap_setCell_same _ _ _ _ _ _ gu) (by simp[BA_size]) ?_;rw[HL.out])
 refine (canon_any (u%W255) _ HX0.out.1 HX0.out.2).mono ?_
 rintro e v3 ⟨rfl,hb3⟩
 have gk3:=bheap hb3 ((heap_setCell_other _ _ _ _ (by simp)).trans gk2) (by have:=heap_lt gk2;simp;omega)
 have gz3:=bheap hb3 ((heap_setCell_other _ _ _ _ (by simp)).trans gz) (by have:=heap_lt gz;simp;omega)
 have hB3:Below w.heap.size w v3:=Below.trans (Below.setCell hB (by simp) _) (hb3.mono (by have:=hB.size;simp;omega))
 clear hb3 gk2 gz hB gu cu fu e127
 have NX:=N256.mod (u%W255)
 obtain ⟨x,hxe⟩:∃ x,u%W255%P255=x:=⟨_,rfl⟩
 rw[hxe] at NX ⊢
 have HXE:=Hid.mk hxe
 clear hxe
 go_wp2_with (refine st_bytesS (by rfl) (by rfl) (heap_alloc_new v3 _) (by rfl) ?_;intro v4 gx o4;refine Hid.out ?_)
 have hs3:=heap_lt gz3
 replace gk3:=(o4.block _ (Nat.ne_of_lt (heap_lt gk3))).trans ((Below.heap_alloc v3 _ _ (heap_lt gk3)).trans gk3)
 replace gz3:=(o4.block _ (Nat.ne_of_lt (heap_lt gz3))).trans ((Below.heap_alloc v3 _ _ (heap_lt gz3)).trans gz3)
 replace hB3:=Below.trans (hB3.alloc hB3.size _) (Only.below (b:=v3.heap.size) (B:=w.heap.size) o4 hB3.size)
 clear o4
 generalize v3.heap.size=bx at *
 have hK:Keep w v4:=keep_below hz ⟨Below.refl _ _,HP.out⟩ hB3
 clear hB3
 refine Hid.mk ?_
 have NN:=clampN_256 k
 obtain ⟨N,hN⟩:∃ N,clampN k=N:=⟨_,rfl⟩
 have HN:=Hid.mk hN
 rw[hN] at gk3 NN
 clear hN
 have gk:=gk3
 have gz:=gz3
 clear gk3 gz3
 go_wp2_with fail
 refine wp_region3 (Keep w) v4.heap.size
  [(bx,fixd (BA x) 22),(w.heap.size,fixd (BA N) 22),((w.heap.size+1+1),fixd (BA 0) 22)]
  [kv (.agg (BA 1)),kv (.agg (BA 0)),kv (.agg (BA x)),kv (.agg (BA 1)),kv (.agg (Q4 1 0 x 1)),kp (Q4 0 0 0 0) 136 6 (Q4 1 0 x 1),.val fun _=>True]
  [.none,.none,.none,.none,.none,.none,.own 5 1]
  [some 16,some 17,some 18,some 19,some 20,some 6,none]
  [(5,.pointer (some ⟨bx,0,none⟩))]
  [[],[],[.base 0 0],[],[.slot 0,.slot 1,.slot 2,.slot 3],[],[.slot 5,.cont 5 0,.slot 4]]
  [.slot 5,.cont 5 1,.base 0 0,.base 1 0,.base 2 0] [16,17,18,19,20,6]
  rfl (by kernel_rfl) ⟨rfl,trivial⟩ (keep_drew hK) (Nat.le_refl _) ⟨⟨heap_lt gx,obIn gx⟩,⟨heap_lt gk,obIn gk⟩,⟨heap_lt gz,obIn gz⟩,trivial⟩ ⟨⟨trivial,trivial,trivial⟩,⟨trivial,trivial⟩,trivial,trivial⟩ (keep_G hz hK.1.size ⟨by omega,by omega,by omega,trivial⟩)
  ⟨
   (fun _ _ ww _ hS _ _ _=>.inl ⟨trivial,fun K hK=>stepc1 enterOf rfl rfl (of_any 1 ww hS.2 (by omega) (by omega)) (fun w' hb=>hK _ _ ⟨touch_below hb,(congrArg (fun n=>Value.agg (BA n)) of1)⟩)⟩),
   (fun _ _ ww _ hS _ _ _=>.inl ⟨trivial,fun K hK=>stepc1 enterOf rfl rfl (of_any 0 ww hS.2 (by omega) (by omega)) (fun w' hb=>hK _ _ ⟨touch_below hb,(congrArg (fun n=>Value.agg (BA n)) of0)⟩)⟩),
   (fun _ _ _ _ _ _ fr kn=>sV (lookb rfl fr.1 (obAt kn.1))),
   (fun _ _ ww _ hS _ _ _=>.inl ⟨trivial,fun K hK=>stepc1 enterOf rfl rfl (of_any 1 ww hS.2 (by omega) (by omega)) (fun w' hb=>hK _ _ ⟨touch_below hb,(congrArg (fun n=>Value.agg (BA n)) of1)⟩)⟩),
   (fun _ _ _ _ _ _ _ kn=>sV (exec_rung4 rfl kn.1 kn.2.1 kn.2.2.1 kn.2.2.2.1)),
   (fun _ _ _ _ _ _ _ _=>.inl ⟨trivial,fun K hK=>act_alloc zero_rungs rfl (fun w' hb hg=>hK _ _ ⟨touch_below hb,_,Nat.le_refl _,rfl,obIn hg⟩)⟩),
   (fun _ _ _ _ _ _ _ kn=>.inl ⟨trivial,fun K hK=>act_rungs rfl kn.1.1 kn.2.2.1 (obAt kn.2.1) (Q4_size _ _ _ _) (fun w2 hg ho=>hK _ _ ⟨touch_only ho,obIn hg,trivial⟩)⟩),
   trivial⟩ ?_
 intro vs own v5 hK5 hs5 kn inj
 have e6:vs 6=.pointer (some ⟨own 5,0,none⟩):=kn.1.1
 have l6:v4.heap.size≤own 5:=kn.1.2.1
 have gp:=obAt kn.2.1
 have gx5:=obAt kn.2.2.1
 have gk5:=obAt kn.2.2.2.1
 have gz5:=obAt kn.2.2.2.2.1
 have hl4:=heap_lt gz
 have hlx:=heap_lt gx
 clear kn inj gx gk gz
 generalize own 5=bp at *
 simp only[putAll,Act.put,List.setIfInBounds_toArray,List.set_cons_zero,List.set_cons_succ,e6]
 have hbp:w.heap.size+3≤bp:=by omega
 have hbxp:bx<bp:=by omega
 clear e6 l6 hl4 hlx hK own hs5
 go_wp2
 go_loopg [21] 255 (fun m i v=>∃ (j:Nat) (X Z V W:Int),Hid (m+j=255)∧i=.int .i64 (j:Int)∧N256 X∧N256 Z∧N256 V∧N256 W∧Hid (QI X Z V W=Qd.run kN (ofI x) (topList N.toNat j) (Qd.start (ofI x))) ∧
  v.heap[w.heap.size]?=some (.cells (BA N) 22 (0,0))∧v.heap[w.heap.size+1+1]?=some (.cells (BA 0) 22 (0,0))∧v.heap[bx]?=some (.cells (BA x) 22 (0,0))∧v.heap[bp]?=some (.cells (Q4 X Z V W) 136 (0,0))∧Keep w v)
 case atStart=>exact ⟨0,1,0,x,1,Hid.mk rfl,rfl,N256_1',N256_0',NX,N256_1',Hid.mk (start_link x),gk5,gz5,gx5,gp,hK5⟩
 case round =>
  clear gk5 gz5 gx5 gp hK5
  obtain ⟨j,X,Z,V,W,HJ,rfl,nX,nZ,nV,nW,HQ,gk,gz,gx,gp,hK⟩:=hrel
  have hj255:j≤255:=by have:=HJ.out;omega
  by_cases hj:j<255
  ·go_wp2_with fail
   refine wp_region3 (Keep w) wr.heap.size
    [(bp,⟨isOb (Q4 X Z V W) 136,[(7,RGo (Qd.step kN (ofI x) (N.toNat.testBit (254-j)) (QI X Z V W)))]⟩),(w.heap.size,fixd (BA N) 22),(bx,fixd (BA x) 22),((w.heap.size+1+1),fixd (BA 0) 22)]
    [kv (.agg (Q4 X Z V W)),kv (.agg (BA N)),kv (.int .i64 (j:Int)),kv (.int .i64 (254-(j:Int))),kv (.int .u8 (bI (N.toNat.testBit (254-j)))),kv (.agg (BA x)),.val (RG (Qd.step kN (ofI x) (N.toNat.testBit (254-j)) (QI X Z V W))),.val fun _=>True]
    [.none,.none,.none,.none,.none,.none,.none,.base 0 1]
    [some 24,some 25,some 26,some 27,some 28,some 29,some 30,none]
    [(2,.pointer (some ⟨w.heap.size,0,none⟩)),(5,.pointer (some ⟨bx,0,none⟩)),(6,.pointer (some ⟨bp,0,none⟩)),(7,.int .i64 (j:Int))]
    [[.base 0 0],[.base 1 0],[],[.slot 2],[.slot 1,.slot 3],[.base 2 0],[.slot 0,.slot 4,.slot 5],[.base 0 0,.slot 6]]
    [.base 0 1,.base 1 0,.base 2 0,.base 3 0] [24,25,26,27,28,29,30]
    rfl (by kernel_rfl) ⟨rfl,rfl,rfl,rfl,trivial⟩ (keep_drew hK) (Nat.le_refl _) ⟨⟨heap_lt gp,obIn gp⟩,⟨heap_lt gk,obIn gk⟩,⟨heap_lt gx,obIn gx⟩,⟨heap_lt gz,obIn gz⟩,trivial⟩ ⟨⟨(show (bp:Nat)≠w.heap.size from by omega),(show (bp:Nat)≠bx from by omega),(show (bp:Nat)≠(w.heap.size+1+1) from by omega),trivial⟩,⟨trivial,trivial,trivial⟩,⟨trivial,trivial⟩,trivial,trivial⟩ (keep_G hz hK.1.size ⟨by omega,by omega,by omega,by omega,trivial⟩)
    ⟨
     (fun _ _ _ _ _ _ fr kn=>sV (look_rungs rfl fr.2.2.1 (obAt kn.1))),
     (fun _ _ _ _ _ _ fr kn=>sV (lookb rfl fr.1 (obAt kn.1))),
     (fun _ _ _ _ _ _ fr _=>.inl ⟨trivial,fun K hK=>wp_value (exec_move _ rfl) (hK _ _ ⟨Touch.refl _ _,fr.2.2.2.1⟩)⟩),
     (fun _ _ _ _ _ _ _ kn=>sV (exec_sub254 rfl kn.1 hj255)),
     (fun _ _ ww _ _ _ _ kn=>.inl ⟨trivial,fun K hK=>stepc2 enterBitOf rfl kn.1 kn.2.1 (bitOf_any N j ww NN.1 hj) (fun w' hb=>hK _ _ ⟨touch_below hb,rfl⟩)⟩),
     (fun _ _ _ _ _ _ fr kn=>sV (lookb rfl fr.2.1 (obAt kn.1))),
     (fun _ _ ww _ hS _ _ kn=>.inl ⟨trivial,fun K hK=>stepp3 enterStep rfl kn.1 kn.2.1 kn.2.2.1 (step_rg x _ _ _ (RG_of X Z V W nX nZ nV nW) ww hS.2 NX) (fun v w' hp hb=>hK _ _ ⟨touch_below hb,hp⟩)⟩),
     (fun _ _ _ _ _ _ fr kn=>.inl ⟨trivial,fun K hK=>act_rg rfl fr.2.2.1 kn.2.1 (obAt kn.1) (fun w2 hg ho=>hK _ _ ⟨⟨touch_only ho,hg⟩,trivial⟩)⟩),
     trivial⟩ ?_
   intro vs8 own8 v6 hK6 hs6 kn inj
   obtain ⟨ob,gp6,X',Z',V',W',rfl,nX',nZ',nV',nW',hQ'⟩:=kn.1
   have gk6:=obAt kn.2.1
   have gx6:=obAt kn.2.2.1
   have gz6:=obAt kn.2.2.2.1
   have HQ2:Hid (QI X' Z' V' W'=Qd.run kN (ofI x) (topList N.toNat (j+1)) (Qd.start (ofI x))):=Hid.mk (by rw[topList_succ,run_snoc,← HQ.out];exact hQ')
   clear hQ' HQ kn inj gk gz gx gp hK
   simp only[putAll,Act.put,List.setIfInBounds_toArray,List.set_cons_zero,List.set_cons_succ]
   go_wp2
   go_roundg (255-(j+1))
   case rel=>exact ⟨j+1,X',Z',V',W',Hid.mk (by omega),by go_num,nX',nZ',nV',nW',HQ2,gk6,gz6,gx6,gp6,hK6⟩
   case measure=>have:=HJ.out;omega
  ·have hj2:j=255:=by omega
   subst hj2
   have HE:Hid ((X*invN Z)%P255=tN k u):=Hid.mk (lad_end k u X Z V W (by
    have e:ofI (u%W255)=ofI x:=ofI_eq.2 (by have:=HXE.out;have h2:=Int.emod_emod (u%W255) P255;rw[this] at h2;rw[this,h2])
    unfold keyBits
    rw[e,HN.out]
    exact HQ.out.symm))
   go_wp2_with fail
   refine wp_region3 (Keep w) wr.heap.size
    [(bp,fixd (Q4 X Z V W) 136),((w.heap.size+1+1),once (BA 0) 22 7 (BA (tN k u)))]
    [kv (.pointer (some ⟨bp,0*32,none⟩)),kv (.agg (BA X)),kv (.pointer (some ⟨bp,1*32,none⟩)),kv (.agg (BA Z)),kv (.agg (BA (invN Z))),ks 2 (BA X++BA (invN Z)) 22,kv (.agg (BA (tN k u))),.val fun _=>True]
    [.none,.none,.none,.none,.none,.none,.none,.base 1 1]
    [some 32,some 33,some 34,some 35,some 36,some 37,some 38,none]
    [(4,.pointer (some ⟨(w.heap.size+1+1),0,none⟩)),(6,.pointer (some ⟨bp,0,none⟩))]
    [[],[.slot 0,.base 0 0],[],[.slot 2,.base 0 0],[.slot 3],[.slot 1,.slot 4],[.slot 5,.cont 5 0],[.base 1 0,.slot 6]]
    [.base 1 1] [32,33,34,35,36,37,38]
    rfl (by kernel_rfl) ⟨rfl,rfl,trivial⟩ (keep_drew hK) (Nat.le_refl _) ⟨⟨heap_lt gp,obIn gp⟩,⟨heap_lt gz,obIn gz⟩,trivial⟩ ⟨⟨(show (bp:Nat)≠(w.heap.size+1+1) from by omega),trivial⟩,trivial,trivial⟩ (keep_G hz hK.1.size ⟨by omega,by omega,trivial⟩)
    ⟨
     (fun _ _ _ _ _ _ fr _=>sV (exec_fa rfl fr.2.1 (by decide))),
     (fun _ _ _ _ _ _ _ kn=>sV (lookf rfl kn.1 (range_in (obAt kn.2.1) (Q4_0' X Z V W)))),
     (fun _ _ _ _ _ _ fr _=>sV (exec_fa rfl fr.2.1 (by decide))),
     (fun _ _ _ _ _ _ _ kn=>sV (lookf rfl kn.1 (range_in (obAt kn.2.1) (Q4_1 X Z V W)))),
     (fun _ _ ww _ hS _ _ kn=>.inl ⟨trivial,fun K hK=>stepc1 enterInv rfl kn.1 (inv_any Z ww hS.2 nZ) (fun w' hb=>hK _ _ ⟨touch_below hb,rfl⟩)⟩),
     (fun _ _ _ _ _ _ _ kn=>.inl ⟨trivial,fun K hK=>actb2 rfl kn.1 kn.2.1 (fun v hg hb=>hK _ _ ⟨touch_below hb,_,Nat.le_refl _,rfl,obIn hg⟩)⟩),
     (fun _ _ ww _ _ _ _ kn=>.inl ⟨trivial,fun K hK=>stepc1 enterMul rfl kn.1.1 (mul2 X (invN Z) _ ww nX (invN_256 Z) (rows2 (obAt kn.2.1)) kn.1.2.2) (fun w' hb=>hK _ _ ⟨touch_below hb,(congrArg (fun n=>Value.agg (BA n)) HE.out)⟩)⟩),
     (fun _ _ _ _ _ _ fr kn=>.inl ⟨trivial,fun K hK=>actbytes rfl fr.1 kn.2.1 (obAt kn.1) (fun w2 hg ho=>hK _ _ ⟨⟨touch_only ho,obIn hg⟩,trivial⟩)⟩),
     trivial⟩ ?_
   intro vs8 own8 v6 hK6 hs6 kn inj
   have gz6:=obAt kn.1
   simp only[putAll,Act.put,List.setIfInBounds_toArray,List.set_cons_zero,List.set_cons_succ]
   go_wp2
   exact bodyPost_ret (v:=.agg (BA (tN k u))) (results_cell_row rfl _ _ _ _ _ _ _ rfl gz6 Tryz.underlying22 rfl (by rw[BA_size];exact info32)) rfl ⟨rfl,hK6.1⟩
theorem results_cellt {P:Program} {fn:Func} {p u:Tmp} {ty:TypeId} (h:fn.results=#[.cell p ty,.tmp u]) (tmps:Array Value) (w:World) (g:Nat) {v:Value}
  (hp:tmps.getD p undef=.pointer (some ⟨g,0,none⟩)) (hq:tmps.getD u undef=v) {t:TypeId} {fr:Nat×Nat} {d:TypeDesc} (cs:Array Value) (hg:w.heap[g]?=some (.cells cs t fr))
  (hi:(P.info? ty).map (·.size)=some cs.size) (hu:P.underlying ty=some d) (hd:(match d with | .struct _ | .array _ _=>true | _=>false)=true) :
  (results fn tmps).run P w=.ok (.tuple #[.agg cs,v]) w:=by
 have hp':tmps[p]?.getD undef=.pointer (some ⟨g,0,none⟩):=by simpa using hp
 have hq':tmps[u]?.getD undef=v:=by simpa using hq
 simp[results,h,hp',hq',asAddr,run_loadVar_row w g t ty cs fr d hg hu hd hi]
theorem enterMult (args:Array Value) (w:World):(callFunc 57 args).run Tryz.prog w=.ok (.enter 57 args) w:=by kernel_rfl
theorem of9:(9:Int)%P255=9:=by decide +kernel
theorem public_any (k:Int) (w:World) (hP:PrimeAt w) (Nk:N256 k) :
  Calls Tryz.prog 18 #[.agg (BA k)] w fun e w'=>e=.returned (.agg (BA (tN k 9)))∧Below w.heap.size w w':=by
 have hz:=primeAt_pos hP
 have HP:=Hid.mk hP
 clear hP
 go_enter Tryz.func18,Tryz.ntmps18
 go_wp2_with fail
 refine wp_gen (fun v0=>v0.heap[w.heap.size]?=some (.cells (BA k) 22 (0,0))∧v0.heap[w.heap.size+1]?=some (.cells (BA 0) 22 (0,0))∧Keep w v0)
  ⟨heap_alloc2_old w _ _,heap_alloc2_new w _ _,keep_below hz ⟨Below.refl _ _,HP.out⟩ (by repeat first | exact Below.refl _ _ | refine Below.alloc ?_ (by simp<;>omega) _)⟩ ?_
 rintro v0 ⟨g1,g2,hK⟩
 clear HP
 refine wp_region3 (Keep w) v0.heap.size
  [(w.heap.size,fixd (BA k) 22),((w.heap.size+1),once (BA 0) 22 3 (BA (tN k 9)))]
  [kv (.agg (BA k)),kv (.agg (BA 9)),kv (.agg (BA (tN k 9))),.val fun _=>True]
  [.none,.none,.none,.base 1 1]
  [some 3,some 4,some 5,none]
  [(1,.pointer (some ⟨w.heap.size,0,none⟩)),(2,.pointer (some ⟨(w.heap.size+1),0,none⟩))]
  [[.base 0 0],[],[.slot 0,.slot 1],[.base 1 0,.slot 2]]
  [.base 1 1] [3,4,5]
  rfl (by kernel_rfl) ⟨rfl,rfl,trivial⟩ (keep_drew hK) (Nat.le_refl _) ⟨⟨heap_lt g1,obIn g1⟩,⟨heap_lt g2,obIn g2⟩,trivial⟩ ⟨⟨(show (w.heap.size:Nat)≠(w.heap.size+1) from by omega),trivial⟩,trivial,trivial⟩ (keep_G hz hK.1.size ⟨by omega,by omega,trivial⟩)
  ⟨
   (fun _ _ _ _ _ _ fr kn=>sV (lookb rfl fr.1 (obAt kn.1))),
   (fun _ _ ww _ hS _ _ _=>.inl ⟨trivial,fun K hK=>stepc1 enterOf rfl rfl (of_any 9 ww hS.2 (by omega) (by omega)) (fun w' hb=>hK _ _ ⟨touch_below hb,(congrArg (fun n=>Value.agg (BA n)) of9)⟩)⟩),
   (fun _ _ ww _ hS _ _ kn=>.inl ⟨trivial,fun K hK=>stepc2 enterMult rfl kn.1 kn.2.1 (mult_any k 9 ww hS.2 Nk) (fun w' hb=>hK _ _ ⟨touch_below hb,rfl⟩)⟩),
   (fun _ _ _ _ _ _ fr kn=>.inl ⟨trivial,fun K hK=>actbytes rfl fr.2.1 kn.2.1 (obAt kn.1) (fun w2 hg ho=>hK _ _ ⟨⟨touch_only ho,obIn hg⟩,trivial⟩)⟩),
   trivial⟩ ?_
 intro vs own v1 hK1 hs1 kn inj
 have g3:=obAt kn.1
 simp only[putAll,Act.put,List.setIfInBounds_toArray,List.set_cons_zero,List.set_cons_succ]
 go_wp2
 exact bodyPost_ret (v:=.agg (BA (tN k 9))) (results_cell_row rfl _ _ _ _ _ _ _ rfl g3 Tryz.underlying22 rfl (by rw[BA_size];exact info32)) rfl ⟨rfl,hK1.1⟩
theorem shared_any (k u:Int) (w:World) (hP:PrimeAt w) (hk:N256 k) :
  Calls Tryz.prog 118 #[.agg (BA k),.agg (BA u)] w fun e w'=>e=.returned (.tuple #[.agg (BA (tN k u)),.bool (!(tN k u==0))])∧Below w.heap.size w w':=by
 have hz:=primeAt_pos hP
 have HP:=Hid.mk hP
 clear hP
 have HK:=Hid.mk hk
 clear hk
 go_enter Tryz.func118,Tryz.ntmps118
 go_wp2_with (first|(refine ld_bytes rfl _ rfl w.heap.size (BA k) rfl (heap_a31 w _ _ _) (BA_size _) ?_)|(refine ld_bytes rfl _ rfl (w.heap.size+1) (BA u) rfl (heap_a32 w _ _ _) (BA_size _) ?_))
 refine (mult_any k u _ (primeAt_below HP.out (B:=w.heap.size) (by repeat first | exact Below.refl _ _ | refine Below.alloc ?_ (by simp<;>omega) _) hz) HK.out).mono ?_
 rintro e v1 ⟨rfl,hb1⟩
 have gz:=bheap hb1 (heap_a3 w _ _ _) (by simp<;>omega)
 have hB:Below w.heap.size w v1:=by
  refine Below.trans ?_ (hb1.mono (by simp<;>omega))
  repeat first | exact Below.refl _ _ | refine Below.alloc ?_ (by simp<;>omega) _
 clear hb1
 have Ns:=tN_256 k u
 obtain ⟨s,hs⟩:∃ s,tN k u=s:=⟨_,rfl⟩
 rw[hs] at Ns ⊢
 have HS:=Hid.mk hs
 clear hs
 go_wp2_with (refine st_bytesS (by rfl) (by rfl) (heap_alloc_new v1 _) (by rfl) ?_;intro v2 g6 o2;refine Hid.out ?_)
 have hl:=heap_lt gz
 replace gz:=(o2.block _ (Nat.ne_of_lt (heap_lt gz))).trans ((Below.heap_alloc v1 _ _ (heap_lt gz)).trans gz)
 replace hB:=Below.trans (hB.alloc hB.size _) (Only.below (b:=v1.heap.size) (B:=w.heap.size) o2 hB.size)
 clear o2
 generalize v1.heap.size=b6 at *
 have hK:Keep w v2:=keep_below hz ⟨Below.refl _ _,HP.out⟩ hB
 clear hB
 refine Hid.mk ?_
 go_wp2_with fail
 refine wp_region3 (Keep w) v2.heap.size
  [(b6,fixd (BA s) 22),((w.heap.size+1+1),once (BA 0) 22 4 (BA s))]
  [kv (.agg (BA s)),kv (.agg (BA s)),kv (.agg (BA 0)),kv (.bool (!(s==0))),.val fun _=>True,kv (.bool (!(s==0)))]
  [.none,.none,.none,.none,.base 1 1,.none]
  [some 10,some 11,some 12,some 13,none,some 5]
  [(4,.pointer (some ⟨(w.heap.size+1+1),0,none⟩)),(6,.pointer (some ⟨b6,0,none⟩))]
  [[.base 0 0],[.base 0 0],[],[.slot 1,.slot 2],[.base 1 0,.slot 0],[.slot 3]]
  [.slot 5,.base 1 1] [10,11,12,13,5]
  rfl (by kernel_rfl) ⟨rfl,rfl,trivial⟩ (keep_drew hK) (Nat.le_refl _) ⟨⟨heap_lt g6,obIn g6⟩,⟨heap_lt gz,obIn gz⟩,trivial⟩ ⟨⟨(show (b6:Nat)≠(w.heap.size+1+1) from by omega),trivial⟩,trivial,trivial⟩ (keep_G hz hK.1.size ⟨by omega,by omega,trivial⟩)
  ⟨
   (fun _ _ _ _ _ _ fr kn=>sV (lookb rfl fr.2.1 (obAt kn.1))),
   (fun _ _ _ _ _ _ fr kn=>sV (lookb rfl fr.2.1 (obAt kn.1))),
   (fun _ _ _ _ _ _ _ _=>sV (exec_build0 rfl)),
   (fun _ _ _ _ _ _ _ kn=>sV (neq_bytes _ _ _ rfl s 0 kn.1 kn.2.1 Ns N256_0')),
   (fun _ _ _ _ _ _ fr kn=>.inl ⟨trivial,fun K hK=>actbytes rfl fr.1 kn.2.1 (obAt kn.1) (fun w2 hg ho=>hK _ _ ⟨⟨touch_only ho,obIn hg⟩,trivial⟩)⟩),
   (fun _ _ _ _ _ _ _ kn=>.inl ⟨trivial,fun K hK=>wp_value (exec_assign _ rfl) (hK _ _ ⟨Touch.refl _ _,kn.1⟩)⟩),
   trivial⟩ ?_
 intro vs own v3 hK3 hs3 kn inj
 have e5:vs 5=.bool (!(s==0)):=kn.1
 have gz3:=obAt kn.2.1
 clear kn inj
 simp only[putAll,Act.put,List.setIfInBounds_toArray,List.set_cons_zero,List.set_cons_succ,e5]
 go_wp2
 exact bodyPost_ret (v:=.tuple #[.agg (BA s),.bool (!(s==0))]) (results_cellt (v:=.bool (!(s==0))) (p:=4) (u:=5) rfl _ _ _ (by rfl) (by rfl) _ gz3 (by rw[BA_size];exact info32) Tryz.underlying22 rfl) rfl ⟨by rw[HS.out],hK3.1⟩
end Go.Proofs.YthghcjepdhkfdaaGreatDoor.Fld
namespace Go.Proofs.YthghcjepdhkfdaaGreatDoor
open Go.RowKit Go.Proofs
theorem dig_dval {s:Nat→Int}:∀ {n:Nat},Byts n s→∀ j,j<n→digN (dval s n) j=s j
 | 0,_,j,hj=>by omega
 | n+1,h,j,hj=>by
  have hb:Byts n s:=fun i hi=>h i (by omega)
  have hn:=h n (by omega)
  unfold dval digN
  by_cases e:j=n
  ·subst e
   have h0:=dval_nonneg (s:=s) (n:=j) (fun i hi=>(hb i hi).1)
   have h1:=dval_lt (s:=s) (n:=j) hb
   rw[Int.add_mul_ediv_left _ _ (by have:(0:Int)<256 ^ j:=Int.pow_pos (by omega);omega),Int.ediv_eq_zero_of_lt h0 h1]
   omega
  ·obtain ⟨d,hd⟩:∃ d,n=j+1+d:=⟨n-(j+1),by omega⟩
   have ih:=dig_dval hb j (by omega)
   unfold digN at ih
   have hp:(0:Int)<256 ^ j:=Int.pow_pos (by omega)
   have e2:dval s n+256 ^ n*s n=dval s n+256 ^ j*(256*(256 ^ d*s n)):=by
    rw[hd,Int.pow_add,Int.pow_succ]
    simp only[Int.mul_assoc]
   rw[e2,Int.add_mul_ediv_left _ _ (by omega),← ih]
   omega
def nm (s:Nat→Int):Int:=dval s 32
theorem nm_N {s:Nat→Int} (h:Byts 32 s):Fld.N256 (nm s) :=
 ⟨dval_nonneg (fun i hi=>(h i hi).1),dval_lt h⟩
theorem BA_dig (m:Int):Fld.BA m=WA .u8 32 (digN m):=rfl
theorem BA_nm {s:Nat→Int} (h:Byts 32 s):Fld.BA (nm s)=WA .u8 32 s:=by
 rw[BA_dig]
 exact WA_congr (dig_dval h)
def pubF (k:Nat→Int):Nat→Int:=digN (Fld.tN (nm k) 9)
def shF (k u:Nat→Int):Nat→Int:=digN (Fld.tN (nm k) (nm u))
def shZ (k u:Nat→Int):Bool:=!(Fld.tN (nm k) (nm u)==0)
theorem pubF_b (k:Nat→Int) (n:Nat):Byts n (pubF k):=fun i _=>digN_b _ i
theorem Public_run (k:Nat→Int) (w:World) (hP:Fld.PrimeAt w) (hk:Byts 32 k):Calls Tryz.prog 18 #[.agg (WA .u8 32 k)] w fun e w'=>e=.returned (.agg (WA .u8 32 (pubF k)))∧Below w.heap.size w w':=by
 have h:=Fld.public_any (nm k) w hP (nm_N hk)
 rw[BA_nm hk,BA_dig] at h
 exact h
theorem Shared_run (k u:Nat→Int) (w:World) (hP:Fld.PrimeAt w) (hk:Byts 32 k) (hu:Byts 32 u):Calls Tryz.prog 118 #[.agg (WA .u8 32 k),.agg (WA .u8 32 u)] w fun e w'=>e=.returned (.tuple #[.agg (WA .u8 32 (shF k u)),.bool (shZ k u)])∧Below w.heap.size w w':=by
 have h:=Fld.shared_any (nm k) (nm u) w hP (nm_N hk)
 rw[BA_nm hk,BA_nm hu,BA_dig] at h
 exact h
def fourT (n:Int):ByteArray:=mkS 4 (digN n)
theorem fourT_size (n:Int):(fourT n).size=4:=mkS_size _ _
def numT (s:ByteArray):Int:=txt s 0+txt s 1*256+txt s 2*65536+txt s 3*16777216
section
variable {b:Nat} {w w':World}
theorem ArrAt.tou {g n:Nat} {k:IntKind} {ty:TypeId} {s:Nat→Int} (h:ArrAt w g k ty n s) (t:Touch (fun x=>x=b) w w') (hb:g≠b):ArrAt w' g k ty n s:=h.block (t.block g h.lt hb)
end
def mrkK (to:Nat→Int):ByteArray:=mkS 32 (sumF (⟨#[109,97,99,49,45,45,45,45]⟩++mkS 32 to))
def mrkT (m:ByteArray) (to:Nat→Int):ByteArray:=(keyedT 16 (mrkK to) m).1
theorem keyed_size (k m:ByteArray) (hk:k.size≤32):(keyedT 16 k m).1.size=16:=by
 unfold keyedT
 rw[if_pos ⟨by omega,by omega,hk⟩]
 exact mkS_size _ _
theorem mrkT_size (m:ByteArray) (to:Nat→Int):(mrkT m to).size=16:=keyed_size _ m (by unfold mrkK;rw[mkS_size];omega)
theorem rmark7_gen (m:ByteArray) (to K:Nat→Int) (Z:ByteArray×Int) (w:World) (hto:Byts 32 to) (hK:Byts 32 K)
  (k1:∀ u,Calls Tryz.prog 72 #[.string (⟨#[109,97,99,49,45,45,45,45]⟩++mkS 32 to)] u fun e w'=>e=.returned (.agg (WA .u8 32 K))∧Below u.heap.size u w')
  (k2:∀ u,Calls Tryz.prog 66 #[.int .i64 16,.string (mkS 32 K),.string m] u fun e w'=>e=.returned (.tuple #[.string Z.1,.int .i64 Z.2])∧Below u.heap.size u w') :
  Calls Tryz.prog 65 #[.string m,.agg (WA .u8 32 to)] w fun e w'=>e=.returned (.string Z.1)∧Below w.heap.size w w':=by
 have g0:ArrAt (w.alloc (.cells (WA .u8 32 to) 22)) w.heap.size .u8 22 32 to:=heap_alloc_new w _
 have hB:Below w.heap.size w (w.alloc (.cells (WA .u8 32 to) 22)):=(Below.refl _ w).alloc (Nat.le_refl _) _
 have HL:Hid ((⟨#[109,97,99,49,45,45,45,45]⟩:ByteArray).size+(mkS 32 to).size≤9223372036854775807):=Hid.mk (by rw[mkS_size];decide)
 go_enter Tryz.func65,Tryz.ntmps65
 go_wp2_with (refine ld_arr isArr32 g0 (by rfl) ?_)
 refine (rtext_run to _ hto).mono ?_
 rintro x v1 ⟨rfl,hb⟩
 replace hB:=hB.trans (hb.mono hB.size)
 clear hb g0
 go_wp2_with (refine wl_value rfl (exec_catS rfl (by rfl) (by rfl) HL.out) ?_)
 refine (k1 _).mono ?_
 rintro x v2 ⟨rfl,hb⟩
 replace hB:=hB.trans (hb.mono hB.size)
 clear hb k1
 go_wp2_with fail
 refine (rtext_run K _ hK).mono ?_
 rintro x v3 ⟨rfl,hb⟩
 replace hB:=hB.trans (hb.mono hB.size)
 clear hb
 go_wp2_with fail
 refine (k2 _).mono ?_
 rintro x v4 ⟨rfl,hb⟩
 replace hB:=hB.trans (hb.mono hB.size)
 clear hb k2
 go_wp2_with fail
 go_ret
 exact ⟨rfl,hB⟩
theorem rmark7_run (m:ByteArray) (to:Nat→Int) (w:World) (hto:Byts 32 to) (hm:m.size≤562949953421312) :
  Calls Tryz.prog 65 #[.string m,.agg (WA .u8 32 to)] w fun e w'=>e=.returned (.string (mrkT m to))∧Below w.heap.size w w' :=
 rmark7_gen m to _ _ w hto (fun i _=>outF_b _ i) (fun u=>rSum_run _ u (by rw[ByteArray.size_append,mkS_size];exact of_decide_eq_true rfl)) (fun u=>rKeyed_run 16 _ m u hm)
def isWhole (m:ByteArray):Bool:=decide (m.size=148∨m.size=92)
theorem rwhole7_run (m:ByteArray) (w:World):Calls Tryz.prog 70 #[.string m] w fun e w'=>e=.returned (.bool (isWhole m))∧Below w.heap.size w w':=by
 have HW:Hid (isWhole m=decide (m.size=148∨m.size=92)):=Hid.mk rfl
 generalize isWhole m=z at *
 by_cases h1:m.size=148
 ·have e:z=true:=by rw[HW.out];simp[h1]
  subst e
  go_enter Tryz.func70,Tryz.ntmps70
  go_wp2_with fail
  go_ret
  exact ⟨rfl,(Below.refl _ _)⟩
 ·by_cases h2:m.size=92
  ·have e:z=true:=by rw[HW.out];simp[h2]
   subst e
   go_enter Tryz.func70,Tryz.ntmps70
   go_wp2_with fail
   go_ret
   exact ⟨rfl,(Below.refl _ _)⟩
  ·have e:z=false:=by rw[HW.out];simp[h1,h2]
   subst e
   go_enter Tryz.func70,Tryz.ntmps70
   go_wp2_with fail
   go_ret
   refine ⟨?_,Below.refl _ _⟩
   show Ending.returned (.bool (((m.size:Int)==148) || ((m.size:Int)==92)))=_
   have e1:((m.size:Int)==148)=false:=beq_false_of_ne (by omega)
   have e2:((m.size:Int)==92)=false:=beq_false_of_ne (by omega)
   rw[e1,e2]
   rfl
theorem eq_nil {c:ByteArray} (h:c.size=0):c=⟨#[]⟩:=by
 obtain ⟨⟨l⟩⟩:=c
 have:l.length=0:=h
 rw[List.length_eq_zero_iff.mp this]
def marksT (m:ByteArray) (to:Nat→Int) (c:ByteArray):ByteArray:=m++mrkT m to++(if c.size=0 then mkS 16 (fun _=>0) else (keyedT 16 c (m++mrkT m to)).1)
def MarkR (m:ByteArray) (to:Nat→Int) (c:ByteArray):ByteArray×Int:=if ¬ (m.size=116∨m.size=60) then (⟨#[]⟩,10) else if ¬ (c.size=0∨c.size=16) then (⟨#[]⟩,1) else (marksT m to c,0)
theorem rMark_run (m:ByteArray) (to:Nat→Int) (c:ByteArray) (w:World) (hto:Byts 32 to) :
  Calls Tryz.prog 21 #[.string m,.agg (WA .u8 32 to),.string c] w fun e w'=>e=.returned (.tuple #[.string (MarkR m to c).1,.int .i64 (MarkR m to c).2])∧Below w.heap.size w w':=by
 have g0:ArrAt (w.alloc (.cells (WA .u8 32 to) 22)) w.heap.size .u8 22 32 to:=heap_alloc_new w _
 have hB:Below w.heap.size w (w.alloc (.cells (WA .u8 32 to) 22)):=(Below.refl _ w).alloc (Nat.le_refl _) _
 by_cases h1:m.size=116
 ·have h1I:(m.size:Int)=116:=by omega
  by_cases c0:c.size=0
  ·have HC:Hid (c=⟨#[]⟩):=Hid.mk (eq_nil c0)
   have HR:Hid (MarkR m to c=(marksT m to c,0)):=Hid.mk (by unfold MarkR;rw[if_neg (by omega),if_neg (by omega)])
   have HS:Hid (marksT m to c=m++mrkT m to++mkS 16 (fun _=>0)):=Hid.mk (by unfold marksT;rw[if_pos (by omega)])
   have hmk:=fun u=>rmark7_run m to u hto (by omega)
   have hms:=mrkT_size m to
   have hy:=fun u=>rKeyed_run 16 c (m++mrkT m to) u (by rw[ByteArray.size_append];omega)
   have HZS:Hid ((keyedT 16 c (m++mrkT m to)).1.size≤32):=Hid.mk (by rw[keyed_size c _ (by omega)];omega)
   generalize MarkR m to c=R at *
   generalize marksT m to c=R2 at *
   generalize keyedT 16 c (m++mrkT m to)=Z at *
   generalize mrkT m to=M at *
   have HL1:Hid (m.size+M.size≤9223372036854775807):=Hid.mk (by omega)
   have HL2:Hid ((m++M).size+(mkS 16 (fun _=>0)).size≤9223372036854775807):=Hid.mk (by have:=HZS.out;rw[ByteArray.size_append,mkS_size];omega)
   clear HZS
   go_enter Tryz.func21,Tryz.ntmps21
   go_wp2_with (first|(refine wl_value rfl (exec_neqS rfl (by rfl) (by rfl) HC.out) ?_)|(refine ld_arr isArr32 g0 (by rfl) ?_))
   refine (hmk _).mono ?_
   rintro x v1 ⟨rfl,hb⟩
   replace hB:=hB.trans (hb.mono hB.size)
   clear hb g0 hmk
   go_wp2_with (first|(refine wl_value rfl (exec_catS rfl (by rfl) (by rfl) HL1.out) ?_)|(refine wl_makeB (n:=16) (by rfl) (by rfl) (by omega) ?_;intro v2 g2 hb2;refine Hid.out ?_))
   have hz:=hB.size
   replace hB:=hB.trans (hb2.mono hB.size)
   clear hb2
   have hcv:=str_back 16 v1.heap.size 16 _ 16 (fun _=>0) g2.row (fun j _=>by omega) rfl
   refine Hid.mk ?_
   go_wp2_with (first|(refine wl_value rfl (exec_neqS rfl (by rfl) (by rfl) HC.out) ?_)|(refine wl_value rfl (exec_catS rfl (by rfl) (by rfl) HL2.out) ?_))
   refine bodyPost_ret (v:=.tuple #[.string (m++M++mkS 16 (fun _=>0)),.int .i64 0]) (results_two Tryz.results21 (by rfl) (by rfl)) rfl ⟨?_,hB⟩
   rw[HR.out,HS.out]
  ·have HC:Hid (c≠⟨#[]⟩):=Hid.mk (fun e=>c0 (by rw[e];rfl))
   have c0I:¬ (c.size:Int)=0:=by omega
   by_cases c16:c.size=16
   ·have c16I:(c.size:Int)=16:=by omega
    have HR:Hid (MarkR m to c=(marksT m to c,0)):=Hid.mk (by unfold MarkR;rw[if_neg (by omega),if_neg (by omega)])
    have HS:Hid (marksT m to c=m++mrkT m to++(keyedT 16 c (m++mrkT m to)).1):=Hid.mk (by unfold marksT;rw[if_neg (by omega)])
    have hmk:=fun u=>rmark7_run m to u hto (by omega)
    have hms:=mrkT_size m to
    have hy:=fun u=>rKeyed_run 16 c (m++mrkT m to) u (by rw[ByteArray.size_append];omega)
    have HZS:Hid ((keyedT 16 c (m++mrkT m to)).1.size≤32):=Hid.mk (by rw[keyed_size c _ (by omega)];omega)
    generalize MarkR m to c=R at *
    generalize marksT m to c=R2 at *
    generalize keyedT 16 c (m++mrkT m to)=Z at *
    generalize mrkT m to=M at *
    have HL1:Hid (m.size+M.size≤9223372036854775807):=Hid.mk (by omega)
    have HL2:Hid ((m++M).size+Z.1.size≤9223372036854775807):=Hid.mk (by have:=HZS.out;rw[ByteArray.size_append];omega)
    clear HZS
    go_enter Tryz.func21,Tryz.ntmps21
    go_wp2_with (first|(refine wl_value rfl (exec_neqST rfl (by rfl) (by rfl) HC.out) ?_)|(refine ld_arr isArr32 g0 (by rfl) ?_))
    refine (hmk _).mono ?_
    rintro x v1 ⟨rfl,hb⟩
    replace hB:=hB.trans (hb.mono hB.size)
    clear hb g0 hmk
    go_wp2_with (first|(refine wl_value rfl (exec_catS rfl (by rfl) (by rfl) HL1.out) ?_)|(refine wl_makeB (n:=16) (by rfl) (by rfl) (by omega) ?_;intro v2 g2 hb2;refine Hid.out ?_))
    have hz:=hB.size
    replace hB:=hB.trans (hb2.mono hB.size)
    clear hb2
    have hcv:=str_back 16 v1.heap.size 16 _ 16 (fun _=>0) g2.row (fun j _=>by omega) rfl
    refine Hid.mk ?_
    go_wp2_with (refine wl_value rfl (exec_neqST rfl (by rfl) (by rfl) HC.out) ?_)
    refine (hy _).mono ?_
    rintro x v3 ⟨rfl,hb⟩
    replace hB:=hB.trans (hb.mono hB.size)
    clear hb hy hcv
    go_wp2_with (refine wl_value rfl (exec_catS rfl (by rfl) (by rfl) HL2.out) ?_)
    refine bodyPost_ret (v:=.tuple #[.string (m++M++Z.1),.int .i64 0]) (results_two Tryz.results21 (by rfl) (by rfl)) rfl ⟨?_,hB⟩
    rw[HR.out,HS.out]
   ·have c16I:¬ (c.size:Int)=16:=by omega
    have HR:Hid (MarkR m to c=(⟨#[]⟩,1)):=Hid.mk (by unfold MarkR;rw[if_neg (by omega),if_pos (by omega)])
    generalize MarkR m to c=R at *
    go_enter Tryz.func21,Tryz.ntmps21
    go_wp2_with (refine wl_value rfl (exec_neqST rfl (by rfl) (by rfl) HC.out) ?_)
    refine bodyPost_ret (v:=.tuple #[.string ⟨#[]⟩,.int .i64 1]) (results_two Tryz.results21 (by rfl) (by rfl)) rfl ⟨?_,hB⟩
    rw[HR.out]
 ·have h1I:¬ (m.size:Int)=116:=by omega
  by_cases h2:m.size=60
  ·have h2I:(m.size:Int)=60:=by omega
   by_cases c0:c.size=0
   ·have HC:Hid (c=⟨#[]⟩):=Hid.mk (eq_nil c0)
    have HR:Hid (MarkR m to c=(marksT m to c,0)):=Hid.mk (by unfold MarkR;rw[if_neg (by omega),if_neg (by omega)])
    have HS:Hid (marksT m to c=m++mrkT m to++mkS 16 (fun _=>0)):=Hid.mk (by unfold marksT;rw[if_pos (by omega)])
    have hmk:=fun u=>rmark7_run m to u hto (by omega)
    have hms:=mrkT_size m to
    have hy:=fun u=>rKeyed_run 16 c (m++mrkT m to) u (by rw[ByteArray.size_append];omega)
    have HZS:Hid ((keyedT 16 c (m++mrkT m to)).1.size≤32):=Hid.mk (by rw[keyed_size c _ (by omega)];omega)
    generalize MarkR m to c=R at *
    generalize marksT m to c=R2 at *
    generalize keyedT 16 c (m++mrkT m to)=Z at *
    generalize mrkT m to=M at *
    have HL1:Hid (m.size+M.size≤9223372036854775807):=Hid.mk (by omega)
    have HL2:Hid ((m++M).size+(mkS 16 (fun _=>0)).size≤9223372036854775807):=Hid.mk (by have:=HZS.out;rw[ByteArray.size_append,mkS_size];omega)
    clear HZS
    go_enter Tryz.func21,Tryz.ntmps21
    go_wp2_with (first|(refine wl_value rfl (exec_neqS rfl (by rfl) (by rfl) HC.out) ?_)|(refine ld_arr isArr32 g0 (by rfl) ?_))
    refine (hmk _).mono ?_
    rintro x v1 ⟨rfl,hb⟩
    replace hB:=hB.trans (hb.mono hB.size)
    clear hb g0 hmk
    go_wp2_with (first|(refine wl_value rfl (exec_catS rfl (by rfl) (by rfl) HL1.out) ?_)|(refine wl_makeB (n:=16) (by rfl) (by rfl) (by omega) ?_;intro v2 g2 hb2;refine Hid.out ?_))
    have hz:=hB.size
    replace hB:=hB.trans (hb2.mono hB.size)
    clear hb2
    have hcv:=str_back 16 v1.heap.size 16 _ 16 (fun _=>0) g2.row (fun j _=>by omega) rfl
    refine Hid.mk ?_
    go_wp2_with (first|(refine wl_value rfl (exec_neqS rfl (by rfl) (by rfl) HC.out) ?_)|(refine wl_value rfl (exec_catS rfl (by rfl) (by rfl) HL2.out) ?_))
    refine bodyPost_ret (v:=.tuple #[.string (m++M++mkS 16 (fun _=>0)),.int .i64 0]) (results_two Tryz.results21 (by rfl) (by rfl)) rfl ⟨?_,hB⟩
    rw[HR.out,HS.out]
   ·have HC:Hid (c≠⟨#[]⟩):=Hid.mk (fun e=>c0 (by rw[e];rfl))
    have c0I:¬ (c.size:Int)=0:=by omega
    by_cases c16:c.size=16
    ·have c16I:(c.size:Int)=16:=by omega
     have HR:Hid (MarkR m to c=(marksT m to c,0)):=Hid.mk (by unfold MarkR;rw[if_neg (by omega),if_neg (by omega)])
     have HS:Hid (marksT m to c=m++mrkT m to++(keyedT 16 c (m++mrkT m to)).1):=Hid.mk (by unfold marksT;rw[if_neg (by omega)])
     have hmk:=fun u=>rmark7_run m to u hto (by omega)
     have hms:=mrkT_size m to
     have hy:=fun u=>rKeyed_run 16 c (m++mrkT m to) u (by rw[ByteArray.size_append];omega)
     have HZS:Hid ((keyedT 16 c (m++mrkT m to)).1.size≤32):=Hid.mk (by rw[keyed_size c _ (by omega)];omega)
     generalize MarkR m to c=R at *
     generalize marksT m to c=R2 at *
     generalize keyedT 16 c (m++mrkT m to)=Z at *
     generalize mrkT m to=M at *
     have HL1:Hid (m.size+M.size≤9223372036854775807):=Hid.mk (by omega)
     have HL2:Hid ((m++M).size+Z.1.size≤9223372036854775807):=Hid.mk (by have:=HZS.out;rw[ByteArray.size_append];omega)
     clear HZS
     go_enter Tryz.func21,Tryz.ntmps21
     go_wp2_with (first|(refine wl_value rfl (exec_neqST rfl (by rfl) (by rfl) HC.out) ?_)|(refine ld_arr isArr32 g0 (by rfl) ?_))
     refine (hmk _).mono ?_
     rintro x v1 ⟨rfl,hb⟩
     replace hB:=hB.trans (hb.mono hB.size)
     clear hb g0 hmk
     go_wp2_with (first|(refine wl_value rfl (exec_catS rfl (by rfl) (by rfl) HL1.out) ?_)|(refine wl_makeB (n:=16) (by rfl) (by rfl) (by omega) ?_;intro v2 g2 hb2;refine Hid.out ?_))
     have hz:=hB.size
     replace hB:=hB.trans (hb2.mono hB.size)
     clear hb2
     have hcv:=str_back 16 v1.heap.size 16 _ 16 (fun _=>0) g2.row (fun j _=>by omega) rfl
     refine Hid.mk ?_
     go_wp2_with (refine wl_value rfl (exec_neqST rfl (by rfl) (by rfl) HC.out) ?_)
     refine (hy _).mono ?_
     rintro x v3 ⟨rfl,hb⟩
     replace hB:=hB.trans (hb.mono hB.size)
     clear hb hy hcv
     go_wp2_with (refine wl_value rfl (exec_catS rfl (by rfl) (by rfl) HL2.out) ?_)
     refine bodyPost_ret (v:=.tuple #[.string (m++M++Z.1),.int .i64 0]) (results_two Tryz.results21 (by rfl) (by rfl)) rfl ⟨?_,hB⟩
     rw[HR.out,HS.out]
    ·have c16I:¬ (c.size:Int)=16:=by omega
     have HR:Hid (MarkR m to c=(⟨#[]⟩,1)):=Hid.mk (by unfold MarkR;rw[if_neg (by omega),if_pos (by omega)])
     generalize MarkR m to c=R at *
     go_enter Tryz.func21,Tryz.ntmps21
     go_wp2_with (refine wl_value rfl (exec_neqST rfl (by rfl) (by rfl) HC.out) ?_)
     refine bodyPost_ret (v:=.tuple #[.string ⟨#[]⟩,.int .i64 1]) (results_two Tryz.results21 (by rfl) (by rfl)) rfl ⟨?_,hB⟩
     rw[HR.out]
  ·have h2I:((m.size:Int) != 60)=true:=bne_iff_ne.mpr (by omega)
   replace h1I:((m.size:Int) != 116)=true:=bne_iff_ne.mpr h1I
   have HR:Hid (MarkR m to c=(⟨#[]⟩,10)):=Hid.mk (by unfold MarkR;rw[if_pos (by omega)])
   generalize MarkR m to c=R at *
   go_enter Tryz.func21,Tryz.ntmps21
   go_wp2_with fail
   refine bodyPost_ret (v:=.tuple #[.string ⟨#[]⟩,.int .i64 10]) (results_two Tryz.results21 (by rfl) (by rfl)) rfl ⟨?_,hB⟩
   rw[HR.out]
theorem enterMark7 (args:Array Value) (w:World):(callFunc 65 args).run Tryz.prog w=.ok (.enter 65 args) w:=by kernel_rfl
def MarkedR (m:ByteArray) (k:Nat→Int):Bool:=isWhole m && decide (mrkT (m.extract 0 (m.size-32)) k=m.extract (m.size-32) (m.size-32+16))
def CookiedR (m c:ByteArray):Bool:=isWhole m && decide (c.size=16) && decide ((keyedT 16 c (m.extract 0 (m.size-16))).1=m.extract (m.size-16) m.size)
theorem rMarked_run (m:ByteArray) (k:Nat→Int) (w:World) (hk:Byts 32 k) (hm:m.size≤140737488355328) :
  Calls Tryz.prog 28 #[.string m,.agg (WA .u8 32 k)] w fun e w'=>e=.returned (.bool (MarkedR m k))∧Below w.heap.size w w':=by
 have g0:ArrAt (w.alloc (.cells (WA .u8 32 k) 22)) w.heap.size .u8 22 32 k:=heap_alloc_new w _
 have hB:Below w.heap.size w (w.alloc (.cells (WA .u8 32 k) 22)):=(Below.refl _ w).alloc (Nat.le_refl _) _
 have hW:=fun u=>rwhole7_run m u
 by_cases hw:isWhole m=true
 ·have hwd:=of_decide_eq_true hw
  obtain ⟨n,hn⟩:∃ n,m.size=n+32:=⟨m.size-32,by omega⟩
  have HN1:Hid (n≤m.size):=Hid.mk (by omega)
  have HN2:Hid (n+16≤m.size):=Hid.mk (by omega)
  have HN3:Hid (n+16<9223372036854775808):=Hid.mk (by omega)
  have hnI:(m.size:Int)-32=(n:Int):=by omega
  have hnw:=i64_wrap (n:=(n:Int)) (by omega) (by omega)
  have HZ:=Hid.mk (fun u=>rmark7_run (m.extract 0 n) k u hk (by rw[take_size m n (by omega)];omega))
  have HR:Hid (MarkedR m k=decide (mrkT (m.extract 0 n) k=m.extract n (n+16))):=Hid.mk (by unfold MarkedR;rw[hw,show m.size-32=n by omega];rfl)
  rw[hw] at hW
  generalize MarkedR m k=R at *
  generalize mrkT (m.extract 0 n) k=Z at *
  clear hw hwd hn hk hm
  go_enter Tryz.func28,Tryz.ntmps28
  go_wp2_with fail
  refine (hW _).mono ?_
  rintro x v1 ⟨rfl,hb⟩
  replace g0:=g0.kept hb
  replace hB:=hB.trans (hb.mono hB.size)
  clear hb hW
  go_wp2_with fail
  refine wp_gen (fun v=>ArrAt v w.heap.size .u8 22 32 k∧Below w.heap.size w v) ⟨g0,hB⟩ ?_
  clear g0 hB
  rintro v0 ⟨g0,hB⟩
  have HK:Hid (∀ u,Below v0.heap.size v0 u→ArrAt u w.heap.size .u8 22 32 k):=Hid.mk (fun u hu=>g0.kept hu)
  refine wp_region3 (Below v0.heap.size v0) v0.heap.size
    ([]:List (Nat×Cont))
    [kv (.bool true),kv (.bool true),kv (.string m),kv (.int .i64 (n:Int)),kv (.string (m.extract 0 n)),kv (.agg (WA .u8 32 k)),kv (.string Z),kv (.string m),kv (.int .i64 (n:Int)),kv (.int .i64 (n:Int)),kv (.int .i64 ((n+16:Nat):Int)),kv (.string (m.extract n (n+16))),kv (.bool (decide (Z=m.extract n (n+16)))),kv (.bool (decide (Z=m.extract n (n+16)))),kv (.bool (decide (Z=m.extract n (n+16))))]
    [.none,.none,.none,.none,.none,.none,.none,.none,.none,.none,.none,.none,.none,.none,.none]
    [some 12,some 13,some 14,some 15,some 16,some 17,some 18,some 19,some 20,some 21,some 22,some 23,some 24,some 25,some 4]
    [(6,.bool true),(0,.string m),(5,.int .i64 (n:Int)),(3,.pointer (some ⟨w.heap.size,0,none⟩))]
    [[],[.slot 0],[.slot 1],[.slot 1],[.slot 1,.slot 2,.slot 3],[.slot 1],[.slot 1,.slot 4,.slot 5],[.slot 1],[.slot 1],[.slot 1],[.slot 1,.slot 9],[.slot 1,.slot 7,.slot 8,.slot 10],[.slot 1,.slot 6,.slot 11],[.slot 1,.slot 12],[.slot 13]]
    [.slot 14] [12,13,14,15,16,17,18,19,20,21,22,23,24,25,4]
    rfl (by kernel_rfl) ⟨rfl,rfl,rfl,rfl,trivial⟩ (Below.refl _ v0).drew (Nat.le_refl _) trivial trivial (below_G (Nat.le_refl _) trivial)
    ⟨
     (fun _ _ _ _ _ _ fr _=>sV (exec_move rfl fr.1)),
     (fun _ _ _ _ _ _ _ kn=>sV (exec_move rfl kn.1)),
     (fun _ _ _ _ _ _ fr kn=>sG kn.1 (exec_move rfl fr.2.1)),
     (fun _ _ _ _ _ _ fr kn=>sG kn.1 (exec_move rfl fr.2.2.1)),
     (fun _ _ ww _ _ _ _ kn=>sG kn.1 (exec_slH rfl kn.2.1 kn.2.2.1 (strH m n ww HN1.out))),
     (fun _ _ ww _ hS _ fr kn=>sG kn.1 (look_arr rfl isArr32 (HK.out ww hS) fr.2.2.2.1)),
     (fun _ _ ww _ _ _ _ kn=>.inl ⟨kn.1,fun K hK=>stepc enterMark7 rfl (args2 kn.2.1 kn.2.2.1) (HZ.out ww) (fun w' hb=>hK _ _ ⟨touch_below hb,rfl⟩)⟩),
     (fun _ _ _ _ _ _ fr kn=>sG kn.1 (exec_move rfl fr.2.1)),
     (fun _ _ _ _ _ _ fr kn=>sG kn.1 (exec_move rfl fr.2.2.1)),
     (fun _ _ _ _ _ _ fr kn=>sG kn.1 (exec_move rfl fr.2.2.1)),
     (fun _ _ _ _ _ _ _ kn=>sG kn.1 (exec_addN (m:=n) (n:=16) rfl kn.2.1 rfl HN3.out)),
     (fun _ _ ww _ _ _ _ kn=>sG kn.1 (exec_slLH rfl kn.2.1 kn.2.2.1 kn.2.2.2.1 (strLH m n (n+16) ww (Nat.le_add_right _ _) HN2.out))),
     (fun _ _ _ _ _ _ _ kn=>sG kn.1 (exec_eqSd rfl kn.2.1 kn.2.2.1)),
     (fun _ _ _ _ _ _ _ kn=>sV (exec_pick rfl kn.1 kn.2.1)),
     (fun _ _ _ _ _ _ _ kn=>sV (exec_assign rfl kn.1)),
     trivial⟩ ?_
  intro vs own v5 hB5 hs5 kn inj
  clear inj hs5
  have e4:vs 4=.bool (decide (Z=m.extract n (n+16))):=kn.1
  clear kn
  replace hB:=hB.trans (hB5.mono hB.size)
  clear hB5 HK
  simp only[putAll,Act.put,List.setIfInBounds_toArray,List.set_cons_zero,List.set_cons_succ,e4]
  go_wp2_with fail
  go_ret
  rw[HR.out]
  exact ⟨rfl,hB⟩
 ·replace hw:isWhole m=false:=by simpa using hw
  have HR:Hid (MarkedR m k=false):=Hid.mk (by unfold MarkedR;rw[hw];rfl)
  obtain ⟨n,hnI⟩:∃ n:Int,(m.size:Int)-32=n:=⟨_,rfl⟩
  have hnw:=i64_wrap (n:=n) (by omega) (by omega)
  rw[hw] at hW
  generalize MarkedR m k=R at *
  clear hw hk hm
  go_enter Tryz.func28,Tryz.ntmps28
  go_wp2_with fail
  refine (hW _).mono ?_
  rintro x v1 ⟨rfl,hb⟩
  replace g0:=g0.kept hb
  replace hB:=hB.trans (hb.mono hB.size)
  clear hb hW
  go_wp2_with fail
  refine wp_gen (fun v=>ArrAt v w.heap.size .u8 22 32 k∧Below w.heap.size w v) ⟨g0,hB⟩ ?_
  clear g0 hB
  rintro v0 ⟨g0,hB⟩
  have HK:Hid (∀ u,Below v0.heap.size v0 u→ArrAt u w.heap.size .u8 22 32 k):=Hid.mk (fun u hu=>g0.kept hu)
  refine wp_region3 (Below v0.heap.size v0) v0.heap.size
    ([]:List (Nat×Cont))
    [kv (.bool false),kv (.bool false),.val fun _=>True,.val fun _=>True,.val fun _=>True,.val fun _=>True,.val fun _=>True,.val fun _=>True,.val fun _=>True,.val fun _=>True,.val fun _=>True,.val fun _=>True,.val fun _=>True,kv (.bool false),kv (.bool false)]
    [.none,.none,.none,.none,.none,.none,.none,.none,.none,.none,.none,.none,.none,.none,.none]
    [some 12,some 13,some 14,some 15,some 16,some 17,some 18,some 19,some 20,some 21,some 22,some 23,some 24,some 25,some 4]
    [(6,.bool false)]
    [[],[.slot 0],[.slot 1],[.slot 1],[.slot 1],[.slot 1],[.slot 1],[.slot 1],[.slot 1],[.slot 1],[.slot 1],[.slot 1],[.slot 1],[.slot 1],[.slot 13]]
    [.slot 14] [12,13,14,15,16,17,18,19,20,21,22,23,24,25,4]
    rfl (by kernel_rfl) ⟨rfl,trivial⟩ (Below.refl _ v0).drew (Nat.le_refl _) trivial trivial (below_G (Nat.le_refl _) trivial)
    ⟨
     (fun _ _ _ _ _ _ fr _=>sV (exec_move rfl fr.1)),
     (fun _ _ _ _ _ _ _ kn=>sV (exec_move rfl kn.1)),
     (fun _ _ _ _ _ _ _ kn=>.inr ⟨.inl kn.1,Touch.refl _ _,trivial⟩),
     (fun _ _ _ _ _ _ _ kn=>.inr ⟨.inl kn.1,Touch.refl _ _,trivial⟩),
     (fun _ _ _ _ _ _ _ kn=>.inr ⟨.inl kn.1,Touch.refl _ _,trivial⟩),
     (fun _ _ _ _ _ _ _ kn=>.inr ⟨.inl kn.1,Touch.refl _ _,trivial⟩),
     (fun _ _ _ _ _ _ _ kn=>.inr ⟨.inl kn.1,Touch.refl _ _,trivial⟩),
     (fun _ _ _ _ _ _ _ kn=>.inr ⟨.inl kn.1,Touch.refl _ _,trivial⟩),
     (fun _ _ _ _ _ _ _ kn=>.inr ⟨.inl kn.1,Touch.refl _ _,trivial⟩),
     (fun _ _ _ _ _ _ _ kn=>.inr ⟨.inl kn.1,Touch.refl _ _,trivial⟩),
     (fun _ _ _ _ _ _ _ kn=>.inr ⟨.inl kn.1,Touch.refl _ _,trivial⟩),
     (fun _ _ _ _ _ _ _ kn=>.inr ⟨.inl kn.1,Touch.refl _ _,trivial⟩),
     (fun _ _ _ _ _ _ _ kn=>.inr ⟨.inl kn.1,Touch.refl _ _,trivial⟩),
     (fun _ _ _ _ _ _ _ kn=>sV (exec_pickF (v:=.bool false) rfl kn.1 rfl)),
     (fun _ _ _ _ _ _ _ kn=>sV (exec_assign rfl kn.1)),
     trivial⟩ ?_
  intro vs own v5 hB5 hs5 kn inj
  clear inj hs5
  have e4:vs 4=.bool false:=kn.1
  clear kn
  replace hB:=hB.trans (hB5.mono hB.size)
  clear hB5 HK
  simp only[putAll,Act.put,List.setIfInBounds_toArray,List.set_cons_zero,List.set_cons_succ,e4]
  go_wp2_with fail
  go_ret
  rw[HR.out]
  exact ⟨rfl,hB⟩
theorem rCookied_run (m c:ByteArray) (w:World) (hm:m.size≤140737488355328) :
  Calls Tryz.prog 30 #[.string m,.string c] w fun e w'=>e=.returned (.bool (CookiedR m c))∧Below w.heap.size w w':=by
 have hW:=fun u=>rwhole7_run m u
 by_cases hw:isWhole m=true
 ·have hwd:=of_decide_eq_true hw
  by_cases h16:c.size=16
  ·have h16I:(c.size:Int)=16:=by omega
   obtain ⟨n,hn⟩:∃ n,m.size=n+16:=⟨m.size-16,by omega⟩
   have HN1:Hid (n≤m.size):=Hid.mk (by omega)
   have hnI:(m.size:Int)-16=(n:Int):=by omega
   have hnw:=i64_wrap (n:=(n:Int)) (by omega) (by omega)
   have HZ:=Hid.mk (fun u=>rKeyed_run 16 c (m.extract 0 n) u (by rw[take_size m n (by omega)];omega))
   have HR:Hid (CookiedR m c=decide ((keyedT 16 c (m.extract 0 n)).1=m.extract n m.size)):=Hid.mk (by unfold CookiedR;rw[hw,show m.size-16=n by omega,decide_eq_true h16];rfl)
   rw[hw] at hW
   generalize CookiedR m c=R at *
   generalize keyedT 16 c (m.extract 0 n)=Z at *
   clear hw hwd hn hm
   go_enter Tryz.func30,Tryz.ntmps30
   go_wp2_with fail
   refine (hW _).mono ?_
   rintro x v1 ⟨rfl,hb⟩
   have hB:Below w.heap.size w v1:=hb
   clear hb hW
   go_wp2_with (refine wl_value rfl (exec_slH rfl (by rfl) (by rfl) (strH m n _ HN1.out)) ?_)
   refine (HZ.out _).mono ?_
   rintro x v2 ⟨rfl,hb⟩
   replace hB:=hB.trans (hb.mono hB.size)
   clear hb HZ
   go_wp2_with (first|(refine wl_value rfl (exec_slL rfl (by rfl) (by rfl) (strL m n _ HN1.out)) ?_)|(refine wl_value rfl (exec_eqSd rfl (by rfl) (by rfl)) ?_))
   go_ret
   rw[HR.out]
   exact ⟨rfl,hB⟩
  ·have h16I:¬ (c.size:Int)=16:=by omega
   have HR:Hid (CookiedR m c=false):=Hid.mk (by unfold CookiedR;rw[decide_eq_false h16,Bool.and_false];rfl)
   rw[hw] at hW
   generalize CookiedR m c=R at *
   clear hw hwd hm
   go_enter Tryz.func30,Tryz.ntmps30
   go_wp2_with fail
   refine (hW _).mono ?_
   rintro x v1 ⟨rfl,hb⟩
   have hB:Below w.heap.size w v1:=hb
   clear hb hW
   go_wp2_with fail
   go_ret
   rw[HR.out]
   exact ⟨rfl,hB⟩
 ·replace hw:isWhole m=false:=by simpa using hw
  have HR:Hid (CookiedR m c=false):=Hid.mk (by unfold CookiedR;rw[hw];rfl)
  rw[hw] at hW
  generalize CookiedR m c=R at *
  clear hw hm
  go_enter Tryz.func30,Tryz.ntmps30
  go_wp2_with fail
  refine (hW _).mono ?_
  rintro x v1 ⟨rfl,hb⟩
  have hB:Below w.heap.size w v1:=hb
  clear hb hW
  go_wp2_with fail
  go_ret
  rw[HR.out]
  exact ⟨rfl,hB⟩
theorem enterSealW5 (args:Array Value) (w:World):(callFunc 71 args).run Tryz.prog w=.ok (.enter 71 args) w:=by kernel_rfl
theorem enterOpenW5 (args:Array Value) (w:World):(callFunc 75 args).run Tryz.prog w=.ok (.enter 75 args) w:=by kernel_rfl
def ckK (k:Nat→Int):Nat→Int:=sumF (⟨#[99,111,111,107,105,101,45,45]⟩++mkS 32 k)
theorem ckK_b (k:Nat→Int) (n:Nat):Byts n (ckK k):=fun i _=>outF_b _ i
theorem rSum_ck (k:Nat→Int) (u:World):Calls Tryz.prog 72 #[.string (⟨#[99,111,111,107,105,101,45,45]⟩++mkS 32 k)] u fun e w'=>e=.returned (.agg (WA .u8 32 (ckK k)))∧Below u.heap.size u w':=rSum_run _ u (by rw[ByteArray.size_append,mkS_size];exact of_decide_eq_true rfl)
def BoxR (k nn:Nat→Int) (m c:ByteArray):ByteArray×Int:=if isWhole m=false then (⟨#[]⟩,10) else if ¬ c.size=16 then (⟨#[]⟩,1) else (⟨#[3,0,0,0]⟩++m.extract 4 8++mkS 24 nn++boxT (der (ckK k) nn) (tailN fun j=>nn (16+j)) c (m.extract (m.size-32) (m.size-32+16)),0)
theorem rBox_run (k nn:Nat→Int) (m c:ByteArray) (w:World) (hk:Byts 32 k) (hn:Byts 24 nn) (hm:m.size≤140737488355328) :
  Calls Tryz.prog 25 #[.agg (WA .u8 32 k),.agg (WA .u8 24 nn),.string m,.string c] w fun e w'=>e=.returned (.tuple #[.string (BoxR k nn m c).1,.int .i64 (BoxR k nn m c).2])∧Below w.heap.size w w':=by
 have g0:ArrAt ((w.alloc (.cells (WA .u8 32 k) 22)).alloc (.cells (WA .u8 24 nn) 53)) w.heap.size .u8 22 32 k:=heap_alloc2_old w _ _
 have g1:ArrAt ((w.alloc (.cells (WA .u8 32 k) 22)).alloc (.cells (WA .u8 24 nn) 53)) (w.heap.size+1) .u8 53 24 nn:=heap_alloc2_new w _ _
 have hB:Below w.heap.size w ((w.alloc (.cells (WA .u8 32 k) 22)).alloc (.cells (WA .u8 24 nn) 53)):=((Below.refl _ w).alloc (by simp) _).alloc (by simp) _
 have hW:=fun u=>rwhole7_run m u
 by_cases hw:isWhole m=true
 ·have hwd:=of_decide_eq_true hw
  by_cases h16:c.size=16
  ·have h16I:(c.size:Int)=16:=by omega
   obtain ⟨n,hnn⟩:∃ n,m.size=n+32:=⟨m.size-32,by omega⟩
   have HN2:Hid (n+16≤m.size):=Hid.mk (by omega)
   have HN3:Hid (n+16<9223372036854775808):=Hid.mk (by omega)
   have HM8:Hid (8≤m.size):=Hid.mk (by omega)
   have hnI:(m.size:Int)-32=(n:Int):=by omega
   have hnw:=i64_wrap (n:=(n:Int)) (by omega) (by omega)
   have hes:(m.extract n (n+16)).size=16:=by rw[ByteArray.size_extract];omega
   have he4:(m.extract 4 8).size=4:=by rw[ByteArray.size_extract];omega
   have HZ:=Hid.mk (fun u=>rSealWide_run (ckK k) nn c (m.extract n (n+16)) u (ckK_b k 32) hn (by omega) (by omega))
   have hzs:(boxT (der (ckK k) nn) (tailN fun j=>nn (16+j)) c (m.extract n (n+16))).size=32:=by rw[boxT_size];omega
   have HCK:=Hid.mk (rSum_ck k)
   have HK:=Hid.mk hk
   have HNB:=Hid.mk hn
   have HR:Hid (BoxR k nn m c=(⟨#[3,0,0,0]⟩++m.extract 4 8++mkS 24 nn++boxT (der (ckK k) nn) (tailN fun j=>nn (16+j)) c (m.extract n (n+16)),0)):=Hid.mk (by unfold BoxR;rw[if_neg (by rw[hw];decide),if_neg (by omega),show m.size-32=n by omega])
   rw[hw] at hW
   generalize BoxR k nn m c=R at *
   generalize boxT (der (ckK k) nn) (tailN fun j=>nn (16+j)) c (m.extract n (n+16))=Z at *
   generalize ckK k=CK at *
   have HL1:Hid ((⟨#[3,0,0,0]⟩:ByteArray).size+(m.extract 4 8).size≤9223372036854775807):=Hid.mk (by rw[he4];decide)
   have HL2:Hid ((⟨#[3,0,0,0]⟩++m.extract 4 8).size+(mkS 24 nn).size≤9223372036854775807):=Hid.mk (by rw[mkS_size,ByteArray.size_append,he4];decide)
   have HL3:Hid ((⟨#[99,111,111,107,105,101,45,45]⟩:ByteArray).size+(mkS 32 k).size≤9223372036854775807):=Hid.mk (by rw[mkS_size];decide)
   have HL4:Hid ((⟨#[3,0,0,0]⟩++m.extract 4 8++mkS 24 nn).size+Z.size≤9223372036854775807):=Hid.mk (by rw[hzs,ByteArray.size_append,mkS_size,ByteArray.size_append,he4];decide)
   clear hw hwd hnn hm hk hn hes he4 hzs
   go_enter Tryz.func25,Tryz.ntmps25
   go_wp2_with fail
   refine (hW _).mono ?_
   rintro x v1 ⟨rfl,hb⟩
   replace g0:=g0.kept hb
   replace g1:=g1.kept hb
   replace hB:=hB.trans (hb.mono hB.size)
   clear hb hW
   go_wp2_with fail
   refine wp_gen (fun v=>ArrAt v w.heap.size .u8 22 32 k∧ArrAt v (w.heap.size+1) .u8 53 24 nn∧Below w.heap.size w v) ⟨g0,g1,hB⟩ ?_
   clear g0 g1 hB
   rintro v0 ⟨g0,g1,hB⟩
   have HG0:Hid (∀ u,Below v0.heap.size v0 u→ArrAt u w.heap.size .u8 22 32 k):=Hid.mk (fun u hu=>g0.kept hu)
   have HG1:Hid (∀ u,Below v0.heap.size v0 u→ArrAt u (w.heap.size+1) .u8 53 24 nn):=Hid.mk (fun u hu=>g1.kept hu)
   refine wp_region3 (Below v0.heap.size v0) v0.heap.size
     ([]:List (Nat×Cont))
     [kv (.string m),kv (.string (m.extract 4 8)),kv (.string (⟨#[3,0,0,0]⟩++m.extract 4 8)),kv (.slice (some ⟨(w.heap.size+1),0,none⟩) 24 24),kv (.string (mkS 24 nn)),kv (.string (⟨#[3,0,0,0]⟩++m.extract 4 8++mkS 24 nn)),kv (.agg (WA .u8 32 k)),kv (.string (mkS 32 k)),kv (.string (⟨#[99,111,111,107,105,101,45,45]⟩++mkS 32 k)),kv (.agg (WA .u8 32 CK)),kv (.agg (WA .u8 24 nn)),kv (.string c),kv (.string m),kv (.int .i64 (n:Int)),kv (.int .i64 (n:Int)),kv (.int .i64 ((n+16:Nat):Int)),kv (.string (m.extract n (n+16))),kv (.string Z),kv (.string (⟨#[3,0,0,0]⟩++m.extract 4 8++mkS 24 nn++Z)),kv (.string (⟨#[3,0,0,0]⟩++m.extract 4 8++mkS 24 nn++Z)),kv (.int .i64 0)]
     [.none,.none,.none,.none,.none,.none,.none,.none,.none,.none,.none,.none,.none,.none,.none,.none,.none,.none,.none,.none,.none]
     [some 22,some 23,some 24,some 25,some 26,some 27,some 28,some 29,some 30,some 31,some 32,some 33,some 34,some 35,some 36,some 37,some 38,some 39,some 40,some 8,some 9]
     [(2,.string m),(5,.pointer (some ⟨(w.heap.size+1),0,none⟩)),(4,.pointer (some ⟨w.heap.size,0,none⟩)),(3,.string c),(11,.int .i64 (n:Int))]
     [[],[.slot 0],[.slot 1],[],[.slot 3],[.slot 2,.slot 4],[],[.slot 6],[.slot 7],[.slot 8],[],[],[],[],[],[.slot 14],[.slot 12,.slot 13,.slot 15],[.slot 9,.slot 10,.slot 11,.slot 16],[.slot 5,.slot 17],[.slot 18],[]]
     [.slot 19,.slot 20] [22,23,24,25,26,27,28,29,30,31,32,33,34,35,36,37,38,39,40,8,9]
     rfl (by kernel_rfl) ⟨rfl,rfl,rfl,rfl,rfl,trivial⟩ (Below.refl _ v0).drew (Nat.le_refl _) trivial trivial (below_G (Nat.le_refl _) trivial)
     ⟨
      (fun _ _ _ _ _ _ fr _=>sV (exec_move rfl fr.1)),
      (fun _ _ ww _ _ _ _ kn=>sV (exec_slLH rfl kn.1 rfl rfl (strLH m 4 8 ww (by omega) HM8.out))),
      (fun _ _ _ _ _ _ _ kn=>sV (exec_catS (s:=⟨#[3,0,0,0]⟩) rfl rfl kn.1 HL1.out)),
      (fun _ _ ww _ _ _ fr _=>sV (exec_sl (v:=.pointer (some ⟨(w.heap.size+1),0,none⟩)) rfl fr.2.1 (sl24w (w.heap.size+1) ww))),
      (fun _ _ ww _ hS _ _ kn=>sV (exec_conv rfl kn.1 (str_back 24 (w.heap.size+1) 24 ww 24 nn (HG1.out ww hS).row HNB.out rfl))),
      (fun _ _ _ _ _ _ _ kn=>sV (exec_catS rfl kn.1 kn.2.1 HL2.out)),
      (fun _ _ ww _ hS _ fr _=>sV (look_arr rfl isArr32 (HG0.out ww hS) fr.2.2.1)),
      (fun _ _ ww _ _ _ _ kn=>.inl ⟨trivial,fun K hK=>stepc enterText7 rfl (args1 kn.1) (rtext_run k ww HK.out) (fun w' hb=>hK _ _ ⟨touch_below hb,rfl⟩)⟩),
      (fun _ _ _ _ _ _ _ kn=>sV (exec_catS (s:=⟨#[99,111,111,107,105,101,45,45]⟩) rfl rfl kn.1 HL3.out)),
      (fun _ _ ww _ _ _ _ kn=>.inl ⟨trivial,fun K hK=>stepc enterSum rfl (args1 kn.1) (HCK.out ww) (fun w' hb=>hK _ _ ⟨touch_below hb,rfl⟩)⟩),
      (fun _ _ ww _ hS _ fr _=>sV (look_arr rfl isArr24 (HG1.out ww hS) fr.2.1)),
      (fun _ _ _ _ _ _ fr _=>sV (exec_move rfl fr.2.2.2.1)),
      (fun _ _ _ _ _ _ fr _=>sV (exec_move rfl fr.1)),
      (fun _ _ _ _ _ _ fr _=>sV (exec_move rfl fr.2.2.2.2.1)),
      (fun _ _ _ _ _ _ fr _=>sV (exec_move rfl fr.2.2.2.2.1)),
      (fun _ _ _ _ _ _ _ kn=>sV (exec_addN (m:=n) (n:=16) rfl kn.1 rfl HN3.out)),
      (fun _ _ ww _ _ _ _ kn=>sV (exec_slLH rfl kn.1 kn.2.1 kn.2.2.1 (strLH m n (n+16) ww (Nat.le_add_right _ _) HN2.out))),
      (fun _ _ ww _ _ _ _ kn=>.inl ⟨trivial,fun K hK=>stepc enterSealW5 rfl (args4 kn.1 kn.2.1 kn.2.2.1 kn.2.2.2.1) (HZ.out ww) (fun w' hb=>hK _ _ ⟨touch_below hb,rfl⟩)⟩),
      (fun _ _ _ _ _ _ _ kn=>sV (exec_catS rfl kn.1 kn.2.1 HL4.out)),
      (fun _ _ _ _ _ _ _ kn=>sV (exec_assign rfl kn.1)),
      (fun _ _ _ _ _ _ _ _=>sV (exec_assign (v:=.int .i64 0) rfl rfl)),
      trivial⟩ ?_
   intro vs own v5 hB5 hs5 kn inj
   clear inj hs5
   have e8:vs 8=_:=kn.1
   have e9:vs 9=_:=kn.2.1
   clear kn HG0 HG1
   replace hB:=hB.trans (hB5.mono hB.size)
   simp only[putAll,Act.put,List.setIfInBounds_toArray,List.set_cons_zero,List.set_cons_succ,e8,e9]
   go_wp2_with fail
   exact bodyPost_ret (v:=.tuple #[.string (⟨#[3,0,0,0]⟩++m.extract 4 8++mkS 24 nn++Z),.int .i64 0]) (results_two Tryz.results25 (by rfl) (by rfl)) rfl ⟨by rw[HR.out],hB⟩
  ·have h16I:((c.size:Int) != 16)=true:=bne_iff_ne.mpr (by omega)
   have HR:Hid (BoxR k nn m c=(⟨#[]⟩,1)):=Hid.mk (by unfold BoxR;rw[if_neg (by rw[hw];decide),if_pos h16])
   rw[hw] at hW
   generalize BoxR k nn m c=R at *
   clear hw hwd hm
   go_enter Tryz.func25,Tryz.ntmps25
   go_wp2_with fail
   refine (hW _).mono ?_
   rintro x v1 ⟨rfl,hb⟩
   replace g0:=g0.kept hb
   replace g1:=g1.kept hb
   replace hB:=hB.trans (hb.mono hB.size)
   clear hb hW
   go_wp2_with fail
   exact bodyPost_ret (v:=.tuple #[.string ⟨#[]⟩,.int .i64 1]) (results_two Tryz.results25 (by rfl) (by rfl)) rfl ⟨by rw[HR.out],hB⟩
 ·replace hw:isWhole m=false:=by simpa using hw
  have HR:Hid (BoxR k nn m c=(⟨#[]⟩,10)):=Hid.mk (by unfold BoxR;rw[if_pos hw])
  rw[hw] at hW
  generalize BoxR k nn m c=R at *
  clear hw hm
  go_enter Tryz.func25,Tryz.ntmps25
  go_wp2_with fail
  refine (hW _).mono ?_
  rintro x v1 ⟨rfl,hb⟩
  replace g0:=g0.kept hb
  replace g1:=g1.kept hb
  replace hB:=hB.trans (hb.mono hB.size)
  clear hb hW
  go_wp2_with fail
  exact bodyPost_ret (v:=.tuple #[.string ⟨#[]⟩,.int .i64 10]) (results_two Tryz.results25 (by rfl) (by rfl)) rfl ⟨by rw[HR.out],hB⟩
theorem openT_two (key nonce:Nat→Int) (box beside:ByteArray):(openT key nonce box beside).2=0∨openT key nonce box beside=(⟨#[]⟩,13):=by
 unfold openT
 split
 ·exact .inl rfl
 ·exact .inr rfl
def UnboxR (k:Nat→Int) (mk m:ByteArray):ByteArray×Int:=if ¬ m.size=64 then (⟨#[]⟩,10) else if ¬ m.extract 0 4=⟨#[3,0,0,0]⟩ then (⟨#[]⟩,11) else if ¬ mk.size=16 then (⟨#[]⟩,1) else openT (der (ckK k) (txt (m.extract 8 32))) (tailN fun j=>txt (m.extract 8 32) (16+j)) (m.extract 32 m.size) mk
theorem rUnbox_run (k:Nat→Int) (mk m:ByteArray) (w:World) (hk:Byts 32 k) :
  Calls Tryz.prog 27 #[.agg (WA .u8 32 k),.string mk,.string m] w fun e w'=>e=.returned (.tuple #[.string (UnboxR k mk m).1,.int .i64 (UnboxR k mk m).2])∧Below w.heap.size w w':=by
 have hB:Below w.heap.size w (w.alloc (.cells (WA .u8 32 k) 22)):=(Below.refl _ w).alloc (Nat.le_refl _) _
 by_cases h64:m.size=64
 ·have h64I:(m.size:Int)=64:=by omega
  have HM4:Hid (4≤m.size):=Hid.mk (by omega)
  have HM:Hid (32≤m.size):=Hid.mk (by omega)
  by_cases ht:m.extract 0 4=⟨#[3,0,0,0]⟩
  ·have HT:=Hid.mk ht
   by_cases h16:mk.size=16
   ·have h16I:(mk.size:Int)=16:=by omega
    have hes:(m.extract 8 32).size=24:=by rw[ByteArray.size_extract];omega
    have he3:(m.extract 32 m.size).size=32:=by rw[ByteArray.size_extract];omega
    obtain ⟨nn,hnn⟩:∃ nn,txt (m.extract 8 32)=nn:=⟨_,rfl⟩
    have hnb:Byts 24 nn:=fun j _=>hnn▸txt_b _ j
    have HNB:=Hid.mk hnb
    have hmm:m.extract 8 32=mkS 24 nn:=by rw[← hnn,← hes];exact (mkS_txt _).symm
    have HSL:Hid (∀ ww:World,(Instr.sliceAt 9 (.string m) (some (.int .i64 8)) (some (.int .i64 32)) none).run Tryz.prog ww=.ok (.string (mkS 24 nn)) ww):=Hid.mk (fun ww=>by rw[← hmm];exact strLH m 8 32 ww (by omega) HM.out)
    have HSM:Hid (∀ ww:World,(Instr.sliceAt 9 (.string m) (some (.int .i64 32)) none none).run Tryz.prog ww=.ok (.string (m.extract 32 m.size)) ww):=Hid.mk (fun ww=>strL m 32 ww HM.out)
    have HZ:=Hid.mk (fun u=>rOpenWide_run (ckK k) nn (m.extract 32 m.size) mk u (ckK_b k 32) hnb (by omega) (by omega))
    have hZ0:=Hid.mk (openT_two (der (ckK k) nn) (tailN fun j=>nn (16+j)) (m.extract 32 m.size) mk)
    have HCK:=Hid.mk (rSum_ck k)
    have HK:=Hid.mk hk
    have HR:Hid (UnboxR k mk m=openT (der (ckK k) nn) (tailN fun j=>nn (16+j)) (m.extract 32 m.size) mk):=Hid.mk (by unfold UnboxR;rw[if_neg (by omega),if_neg (not_not_intro ht),if_neg (by omega),hnn])
    generalize UnboxR k mk m=R at *
    generalize openT (der (ckK k) nn) (tailN fun j=>nn (16+j)) (m.extract 32 m.size) mk=Z at *
    generalize ckK k=CK at *
    have HL3:Hid ((⟨#[99,111,111,107,105,101,45,45]⟩:ByteArray).size+(mkS 32 k).size≤9223372036854775807):=Hid.mk (by rw[mkS_size];decide)
    have G0:ArrAt ((w.alloc (.cells (WA .u8 32 k) 22)).alloc (.cells (WA .u8 24 fun _=>0) 53)) w.heap.size .u8 22 32 k:=heap_alloc2_old w _ _
    have G1:ArrAt ((w.alloc (.cells (WA .u8 32 k) 22)).alloc (.cells (WA .u8 24 fun _=>0) 53)) (w.heap.size+1) .u8 53 24 (fun _=>0):=heap_alloc2_new w _ _
    have HB:Below w.heap.size w ((w.alloc (.cells (WA .u8 32 k) 22)).alloc (.cells (WA .u8 24 fun _=>0) 53)):=hB.alloc (by simp) _
    clear hes he3 hnn hnb hmm ht hB hk h64 h16
    go_enter Tryz.func27,Tryz.ntmps27
    go_wp2_with (first|(refine wl_value rfl (exec_slH rfl (by rfl) (by rfl) (strH m 4 _ HM4.out)) ?_)|(refine wl_value rfl (exec_neqS rfl (by rfl) (by rfl) HT.out) ?_))
    have g1:=G1
    have hB:=HB
    have g0:=G0
    clear G0 G1 HB
    refine wp_gen (fun v=>ArrAt v (w.heap.size+1) .u8 53 24 (fun _=>0)∧ArrAt v w.heap.size .u8 22 32 (k)∧Below w.heap.size w v) ⟨g1,g0,hB⟩ ?_
    clear g1 g0 hB
    rintro v0 ⟨g1,g0,hB⟩
    refine wp_region3 (Below w.heap.size w) v0.heap.size
      [((w.heap.size+1),once (WA .u8 24 (fun _=>0)) 53 3 (WA .u8 24 (over (fun _=>0) 0 24 nn))),(w.heap.size,fixd (WA .u8 32 (k)) 22)]
      [kv (.slice (some ⟨(w.heap.size+1),0,none⟩) 24 24),kv (.string m),kv (.string (mkS 24 nn)),.val fun _=>True]
      [.none,.none,.none,.base 0 1]
      [some 20,some 21,some 22,some 23]
      [(8,.pointer (some ⟨(w.heap.size+1),0,none⟩)),(2,.string m)]
      [[],[],[.slot 1],[.slot 0,.slot 2,.base 0 0]]
      [.base 0 1,.base 1 0] [20,21,22,23]
      rfl (by kernel_rfl) ⟨rfl,rfl,trivial⟩ (Below.drew hB) (Nat.le_refl _) ⟨⟨g1.lt,obIn g1⟩,⟨g0.lt,obIn g0⟩,trivial⟩ ⟨⟨(show ((w.heap.size+1):Nat)≠w.heap.size from by omega),trivial⟩,trivial,trivial⟩ (below_G hB.size ⟨by omega,by omega,trivial⟩)
      ⟨
       (fun _ _ ww _ _ _ fr _=>sV (exec_sl (v:=.pointer (some ⟨(w.heap.size+1),0,none⟩)) rfl fr.1 (sl24w (w.heap.size+1) ww))),
       (fun _ _ _ _ _ _ fr _=>sV (exec_move rfl fr.2.1)),
       (fun _ _ ww _ _ _ _ kn=>sV (exec_slLH (v:=.string m) (u:=.int .i64 8) (u':=.int .i64 32) rfl kn.1 rfl rfl (HSL.out ww))),
       (fun _ _ _ _ _ _ _ kn=>.inl ⟨trivial,fun K hK=>act_copyS rfl kn.1 kn.2.1 (obAt kn.2.2.1) HNB.out (by omega) (by omega) (fun w2 hg ho=>hK _ _ ⟨⟨touch_only ho,obIn hg⟩,trivial⟩)⟩),
       trivial⟩ ?_
    intro vs own v1 hB1 hs1 kn inj
    clear inj g1 g0 hB
    have g1:ArrAt v1 (w.heap.size+1) .u8 53 24 (over (fun _=>0) 0 24 nn):=obAt kn.1
    have g0:ArrAt v1 w.heap.size .u8 22 32 (k):=obAt kn.2.1
    have hB:=hB1
    clear kn hB1 hs1
    simp only[putAll,Act.put,List.setIfInBounds_toArray,List.set_cons_zero,List.set_cons_succ]
    replace g1:ArrAt v1 (w.heap.size+1) .u8 53 24 nn:=g1.congr (fun j hj=>by unfold over;rw[if_pos (by omega),Nat.sub_zero])
    go_wp2_with fail
    refine wp_gen (fun v=>ArrAt v w.heap.size .u8 22 32 k∧ArrAt v (w.heap.size+1) .u8 53 24 nn∧Below w.heap.size w v) ⟨g0,g1,hB⟩ ?_
    clear g0 g1 hB
    rintro v0 ⟨g0,g1,hB⟩
    have HG0:Hid (∀ u,Below v0.heap.size v0 u→ArrAt u w.heap.size .u8 22 32 k):=Hid.mk (fun u hu=>g0.kept hu)
    have HG1:Hid (∀ u,Below v0.heap.size v0 u→ArrAt u (w.heap.size+1) .u8 53 24 nn):=Hid.mk (fun u hu=>g1.kept hu)
    refine wp_region3 (Below v0.heap.size v0) v0.heap.size
      ([]:List (Nat×Cont))
      [kv (.agg (WA .u8 32 k)),kv (.string (mkS 32 k)),kv (.string (⟨#[99,111,111,107,105,101,45,45]⟩++mkS 32 k)),kv (.agg (WA .u8 32 CK)),kv (.agg (WA .u8 24 nn)),kv (.string m),kv (.string (m.extract 32 m.size)),kv (.string mk),kv (.tuple #[.string Z.1,.int .i64 Z.2]),kv (.tuple #[.string Z.1,.int .i64 Z.2]),kv (.string Z.1),kv (.int .i64 Z.2),kv (.string Z.1),kv (.int .i64 Z.2)]
      [.none,.none,.none,.none,.none,.none,.none,.none,.none,.none,.none,.none,.none,.none]
      [some 25,some 26,some 27,some 28,some 29,some 30,some 31,some 32,some 33,some 24,some 34,some 35,some 9,some 10]
      [(3,.pointer (some ⟨w.heap.size,0,none⟩)),(8,.pointer (some ⟨(w.heap.size+1),0,none⟩)),(2,.string m),(1,.string mk)]
      [[],[.slot 0],[.slot 1],[.slot 2],[],[],[.slot 5],[],[.slot 3,.slot 4,.slot 6,.slot 7],[.slot 8],[.slot 9],[.slot 9],[.slot 10],[.slot 11]]
      [.slot 12,.slot 13] [25,26,27,28,29,30,31,32,33,24,34,35,9,10]
      rfl (by kernel_rfl) ⟨rfl,rfl,rfl,rfl,trivial⟩ (Below.refl _ v0).drew (Nat.le_refl _) trivial trivial (below_G (Nat.le_refl _) trivial)
      ⟨
       (fun _ _ ww _ hS _ fr _=>sV (look_arr rfl isArr32 (HG0.out ww hS) fr.1)),
       (fun _ _ ww _ _ _ _ kn=>.inl ⟨trivial,fun K hK=>stepc enterText7 rfl (args1 kn.1) (rtext_run k ww HK.out) (fun w' hb=>hK _ _ ⟨touch_below hb,rfl⟩)⟩),
       (fun _ _ _ _ _ _ _ kn=>sV (exec_catS (s:=⟨#[99,111,111,107,105,101,45,45]⟩) rfl rfl kn.1 HL3.out)),
       (fun _ _ ww _ _ _ _ kn=>.inl ⟨trivial,fun K hK=>stepc enterSum rfl (args1 kn.1) (HCK.out ww) (fun w' hb=>hK _ _ ⟨touch_below hb,rfl⟩)⟩),
       (fun _ _ ww _ hS _ fr _=>sV (look_arr rfl isArr24 (HG1.out ww hS) fr.2.1)),
       (fun _ _ _ _ _ _ fr _=>sV (exec_move rfl fr.2.2.1)),
       (fun _ _ ww _ _ _ _ kn=>sV (exec_slL (v:=.string m) (u:=.int .i64 32) rfl kn.1 rfl (HSM.out ww))),
       (fun _ _ _ _ _ _ fr _=>sV (exec_move rfl fr.2.2.2.1)),
       (fun _ _ ww _ _ _ _ kn=>.inl ⟨trivial,fun K hK=>stepc enterOpenW5 rfl (args4 kn.1 kn.2.1 kn.2.2.1 kn.2.2.2.1) (HZ.out ww) (fun w' hb=>hK _ _ ⟨touch_below hb,rfl⟩)⟩),
       (fun _ _ _ _ _ _ _ kn=>sV (exec_move rfl kn.1)),
       (fun _ _ _ _ _ _ _ kn=>sV (exec_ext rfl kn.1 rfl)),
       (fun _ _ _ _ _ _ _ kn=>sV (exec_ext rfl kn.1 rfl)),
       (fun _ _ _ _ _ _ _ kn=>sV (exec_assign rfl kn.1)),
       (fun _ _ _ _ _ _ _ kn=>sV (exec_assign rfl kn.1)),
       trivial⟩ ?_
    intro vs own v5 hB5 hs5 kn inj
    clear inj hs5
    have e9:vs 9=_:=kn.1
    have e10:vs 10=_:=kn.2.1
    clear kn HG0 HG1
    replace hB:=hB.trans (hB5.mono hB.size)
    simp only[putAll,Act.put,List.setIfInBounds_toArray,List.set_cons_zero,List.set_cons_succ,e9,e10]
    rcases hZ0.out with hz | hz
    ·have HR2:Hid (Z=(Z.1,0)):=Hid.mk (by rw[← hz])
     go_wp2_with fail
     exact bodyPost_ret (v:=.tuple #[.string Z.1,.int .i64 0]) (results_two Tryz.results27 (by rfl) (by rfl)) rfl ⟨by rw[HR.out,hz],hB⟩
    ·have HR2:=Hid.mk hz
     have hz2:Z.2=13:=by rw[hz]
     clear hz
     go_wp2_with fail
     exact bodyPost_ret (v:=.tuple #[.string ⟨#[]⟩,.int .i64 13]) (results_two Tryz.results27 (by rfl) (by rfl)) rfl ⟨by rw[HR.out,HR2.out],hB⟩
   ·have h16I:((mk.size:Int) != 16)=true:=bne_iff_ne.mpr (by omega)
    have HR:Hid (UnboxR k mk m=(⟨#[]⟩,1)):=Hid.mk (by unfold UnboxR;rw[if_neg (by omega),if_neg (not_not_intro ht),if_pos h16])
    generalize UnboxR k mk m=R at *
    go_enter Tryz.func27,Tryz.ntmps27
    go_wp2_with (first|(refine wl_value rfl (exec_slH rfl (by rfl) (by rfl) (strH m 4 _ HM4.out)) ?_)|(refine wl_value rfl (exec_neqS rfl (by rfl) (by rfl) HT.out) ?_))
    exact bodyPost_ret (v:=.tuple #[.string ⟨#[]⟩,.int .i64 1]) (results_two Tryz.results27 (by rfl) (by rfl)) rfl ⟨by rw[HR.out],hB⟩
  ·have HT:=Hid.mk ht
   have HR:Hid (UnboxR k mk m=(⟨#[]⟩,11)):=Hid.mk (by unfold UnboxR;rw[if_neg (by omega),if_pos ht])
   generalize UnboxR k mk m=R at *
   go_enter Tryz.func27,Tryz.ntmps27
   go_wp2_with (first|(refine wl_value rfl (exec_slH rfl (by rfl) (by rfl) (strH m 4 _ HM4.out)) ?_)|(refine wl_value rfl (exec_neqST rfl (by rfl) (by rfl) HT.out) ?_))
   exact bodyPost_ret (v:=.tuple #[.string ⟨#[]⟩,.int .i64 11]) (results_two Tryz.results27 (by rfl) (by rfl)) rfl ⟨by rw[HR.out],hB⟩
 ·have h64I:((m.size:Int) != 64)=true:=bne_iff_ne.mpr (by omega)
  have HR:Hid (UnboxR k mk m=(⟨#[]⟩,10)):=Hid.mk (by unfold UnboxR;rw[if_pos h64])
  generalize UnboxR k mk m=R at *
  go_enter Tryz.func27,Tryz.ntmps27
  go_wp2_with fail
  exact bodyPost_ret (v:=.tuple #[.string ⟨#[]⟩,.int .i64 10]) (results_two Tryz.results27 (by rfl) (by rfl)) rfl ⟨by rw[HR.out],hB⟩
def SC (n:Nat) (V:Nat→Value):Array Value:=((List.range n).map V).toArray
theorem SC_size (n:Nat) (V:Nat→Value):(SC n V).size=n:=by simp[SC]
theorem SC_get (n:Nat) (V:Nat→Value) (i:Nat) (h:i<n):(SC n V)[i]?=some (V i):=by simp[SC,h]
theorem SC_one {n:Nat} {V:Nat→Value} (h:∀ i,(V i).oneCell'=true):(SC n V).all (·.oneCell')=true:=by
 rw[Array.all_eq_true_iff_forall_mem]
 intro v hv
 simp only[SC,List.mem_toArray,List.mem_map] at hv
 obtain ⟨i,_,rfl⟩:=hv
 exact h i
def IsSt (ty n:Nat):Prop:=∃ d,Tryz.prog.underlying ty=some d∧(match d with | .struct _ | .array _ _=>true | _=>false)=true∧(Tryz.prog.info? ty).map (·.size)=some n
def SAt (w:World) (b:Nat) (ty:TypeId) (n:Nat) (V:Nat→Value):Prop:=w.heap[b]?=some (.cells (SC n V) ty (0,0))
section
variable {w w':World} {b n:Nat} {ty:TypeId} {V:Nat→Value}
theorem SAt.at (h:SAt w b ty n V) (i:Nat) (hi:i<n):w.cell? ⟨b,i,none⟩=some (V i):=by
 rw[cell_of_row w b i _ _ _ h,SC_get n V i hi]
theorem SAt.lt (h:SAt w b ty n V):b<w.heap.size:=heap_lt h
theorem SAt.block (h:SAt w b ty n V) (e:w'.heap[b]?=w.heap[b]?):SAt w' b ty n V:=e.trans h
theorem SAt.kept (h:SAt w b ty n V) (hb:Below w.heap.size w w'):SAt w' b ty n V:=h.block (hb.block b h.lt)
theorem SAt.tou {g:Nat} (h:SAt w b ty n V) (t:Touch (fun x=>x=g) w w') (hB:b≠g):SAt w' b ty n V:=h.block (t.block b h.lt hB)
theorem SAt.range {o m:Nat} {s:Nat→Int} (h:SAt w b ty n V) (hm:o+m≤n) (hv:∀ j,j<m→V (o+j)=.int .u8 (s j)):w.rangeAt b o (nums .u8 m s):=fun j v hj=>by
 obtain ⟨hj2,rfl⟩:=nums_get hj
 rw[h.at (o+j) (by omega),hv j hj2]
end
theorem st_st {ops:Array Oper} {rest:List Oper} {d:Option Tmp} {x y:Operand} {t ty:TypeId} {ps:String} {af:Array Edge} {a:Act} {w:World} {Q:Exit→Act→World→Prop} {g n:Nat} {V V':Nat→Value}
  (hA:IsSt ty n) (h1:∀ i,(V i).oneCell'=true) (hg:SAt w g ty n V') (hx:a.eval x=.pointer (some ⟨g,0,none⟩)) (hy:a.eval y=.agg (SC n V))
  (h:∀ w2,SAt w2 g ty n V→Only g w w2→wpList Tryz.prog ops Q rest (a.put d undef) w2):wpList Tryz.prog ops Q ({ dst:=d,op:=.store ty x y,type:=t,pos:=ps,after:=af,guard:=none }::rest) a w:=by
 obtain ⟨_,_,_,h3⟩:=hA
 exact st_row rfl ty x y rfl g _ hx hy ty _ hg (by rw[SC_size];exact h3) (by rw[SC_size,SC_size]) (SC_one h1) h
theorem look_st {a:Act} {o:Oper} {w:World} {x:Operand} {ty:TypeId} {g n:Nat} {V:Nat→Value} (ho:o.op=.load ty x) (hA:IsSt ty n) (hg:SAt w g ty n V) (hx:a.eval x=.pointer (some ⟨g,0,none⟩)):(execOp a.eval o).run Tryz.prog w=.ok (.value (.agg (SC n V))) w:=by
 obtain ⟨d,h1,h2,h3⟩:=hA
 unfold execOp
 simp only[ho,hx]
 have:=run_loadVar_row (P:=Tryz.prog) w g ty ty (SC n V) (0,0) _ hg h1 (by cases d<;>first | rfl | exact h2) (by rw[SC_size];exact h3)
 simp[Instr.loadAt,Instr.sureAddr,this]
def hanV (H C O R P:Nat→Int) (l f:Int) (i:Nat):Value:=if i<32 then .int .u8 (H i) else if i<64 then .int .u8 (C (i-32)) else if i<96 then .int .u8 (O (i-64)) else if i<128 then .int .u8 (R (i-96)) else if i<160 then .int .u8 (P (i-128)) else if i<161 then .int .u32 l else .int .u32 f
def hanZ:Nat→Value:=hanV (fun _=>0) (fun _=>0) (fun _=>0) (fun _=>0) (fun _=>0) 0 0
theorem hanV_one (H C O R P:Nat→Int) (l f:Int) (i:Nat):(hanV H C O R P l f i).oneCell'=true:=by unfold hanV;(repeat' split)<;>rfl
def endV (v:Bool) (B:Nat→Int) (p:Int) (i:Nat):Value:=if i<1 then .bool v else if i<17 then .int .u8 (B (i-1)) else .int .i64 p
theorem isHand:IsSt 31 162:=⟨_,Tryz.underlying31,rfl,by kernel_rfl⟩
section
variable {w:World} {b:Nat} {H C O R P S:Nat→Int} {l f:Int}
end
theorem enterKeyed6 (args:Array Value) (w:World):(callFunc 66 args).run Tryz.prog w=.ok (.enter 66 args) w:=by kernel_rfl
theorem exec_fe0 {a:Act} {o:Oper} {w:World} {x:Operand} (ho:o.op=.fieldAddr 58 x 0) {b:Nat} (hx:a.eval x=.pointer (some ⟨b,0,none⟩)):(execOp a.eval o).run Tryz.prog w=.ok (.value (.pointer (some ⟨b,0,none⟩))) w:=by
 have h:(Instr.fieldAt 58 (.pointer (some ⟨b,0,none⟩)) 0).run Tryz.prog w=.ok (.pointer (some ⟨b,0,none⟩)) w:=by simp[go_sem]
 unfold execOp
 simp only[ho,hx,Sem.run_bind,h,Result.andThen_ok,Sem.run_pure]
theorem exec_fe1 {a:Act} {o:Oper} {w:World} {x:Operand} (ho:o.op=.fieldAddr 58 x 1) {b:Nat} (hx:a.eval x=.pointer (some ⟨b,0,none⟩)):(execOp a.eval o).run Tryz.prog w=.ok (.value (.pointer (some ⟨b,17,none⟩))) w:=by
 have h:(Instr.fieldAt 58 (.pointer (some ⟨b,0,none⟩)) 1).run Tryz.prog w=.ok (.pointer (some ⟨b,17,none⟩)) w:=by simp[go_sem]
 unfold execOp
 simp only[ho,hx,Sem.run_bind,h,Result.andThen_ok,Sem.run_pure]
theorem exec_fa1 {a:Act} {o:Oper} {w:World} {x:Operand} (ho:o.op=.fieldAddr 56 x 1) {b:Nat} (hx:a.eval x=.pointer (some ⟨b,0,none⟩)):(execOp a.eval o).run Tryz.prog w=.ok (.value (.pointer (some ⟨b,1,none⟩))) w:=by
 have h:(Instr.fieldAt 56 (.pointer (some ⟨b,0,none⟩)) 1).run Tryz.prog w=.ok (.pointer (some ⟨b,1,none⟩)) w:=by simp[go_sem]
 unfold execOp
 simp only[ho,hx,Sem.run_bind,h,Result.andThen_ok,Sem.run_pure]
theorem run_ldB {w:World} {p:Addr} {v:Bool} (h:w.cell? p=some (.bool v)):(Instr.loadAt 4 (.pointer (some p))).run Tryz.prog w=.ok (.bool v) w:=by
 simp[go_sem,h]
theorem run_ldI {w:World} {p:Addr} {n:Int} (h:w.cell? p=some (.int .i64 n)):(Instr.loadAt 3 (.pointer (some p))).run Tryz.prog w=.ok (.int .i64 n) w:=by
 simp[go_sem,h]
theorem conv_i8 (n:Int) (w:World):(convert 3 5 (.int .i64 n)).run Tryz.prog w=.ok (.int .u8 (n%256)) w:=by simp[go_sem];rfl
theorem exec_shr8 {a:Act} {o:Oper} {w:World} {x y:Operand} {t:TypeId} (ho:o.op=.binOp .shr 3 x y t) {n:Int} (hx:a.eval x=.int .i64 n) (hy:a.eval y=.int .u64 8):(execOp a.eval o).run Tryz.prog w=.ok (.value (.int .i64 (n/256))) w:=exec_bin2 ho hx hy rfl (by simp[go_sem])
theorem sl16at (b o:Nat) (w:World):(Instr.sliceAt 54 (.pointer (some ⟨b,o,none⟩)) none none none).run Tryz.prog w=.ok (.slice (some ⟨b,o,none⟩) 16 16) w:=by simp[go_sem]
theorem str_mid (b off n:Nat) (w:World) (f:Nat→Int) (hf:Byts n f) {ty:TypeId} {m:Nat} {V:Nat→Value} (hg:SAt w b ty m V) (hm:off+n≤m) (hv:∀ j,j<n→V (off+j)=.int .u8 (f j)) {cp:Nat}:(convert 81 9 (.slice (some ⟨b,off,none⟩) n cp)).run Tryz.prog w=.ok (.string (mkS n f)) w:=by
 have h:=run_convert_bytes_back (P:=Tryz.prog) w 81 9 5 ⟨b,off,none⟩ cp (bytesL n f) Tryz.underlying81 Tryz.underlying5 Tryz.underlying9 (fun j hj=>by
  rw[bytesL_len] at hj
  rw[Addr.add_lit,hg.at (off+j) (by omega),hv j hj]
  have:=hf j hj
  simp[bytesL]
  omega)
 rw[bytesL_len] at h
 exact h
theorem end_b {v:Bool} {B:Nat→Int} {p:Int}:∀ j,j<16→endV v B p (1+j)=.int .u8 (B j):=fun j hj=>by
 unfold endV
 rw[if_neg (by omega),if_pos (by omega),Nat.add_sub_cancel_left]
def prt7 (p:Int) (j:Nat):Int:=if j=0 then p/256%256 else p%256
theorem prt7_b (p:Int):Byts 2 (prt7 p):=fun j _=>by unfold prt7;split<;>omega
theorem runB71 (c:Int) (w:World):(Instr.buildSlice 81 1 #[(0,.int .u8 c)]).run Tryz.prog w=.ok (.slice (some ⟨w.heap.size,0,none⟩) 1 1) (w.alloc (.cells (WA .u8 1 fun _=>c) 5)):=by kernel_rfl
theorem runB72 (c d:Int) (w:World):(Instr.buildSlice 81 2 #[(0,.int .u8 c),(1,.int .u8 d)]).run Tryz.prog w=.ok (.slice (some ⟨w.heap.size,0,none⟩) 2 2) (w.alloc (.cells #[.int .u8 c,.int .u8 d] 5)):=by kernel_rfl
theorem actB71 {o:Oper} {a:Act} {w:World} {K:Act→World→Prop} {Q:Exit→Act→World→Prop} {x:Operand} {c:Int} (ho:o.op=.buildSlice 81 1 #[(0,x)]) (hx:a.eval x=.int .u8 c)
  (h:∀ v,v.heap[w.heap.size]?=some (.cells (WA .u8 1 fun _=>c) 5 (0,0))→Below w.heap.size w v→K (a.put o.dst (.slice (some ⟨w.heap.size,0,none⟩) 1 1)) v):o.wp Tryz.prog a w K Q:=by
 have hr:=runB71 c w
 unfold Oper.wp execOp
 simp only[ho,List.map_toArray,List.map_cons,List.map_nil,hx,Sem.run_bind,hr,Result.andThen_ok,Sem.run_pure,Oper.upon]
 exact h _ (heap_alloc_new w _) ((Below.refl _ _).alloc (Nat.le_refl _) _)
theorem actB72 {o:Oper} {a:Act} {w:World} {K:Act→World→Prop} {Q:Exit→Act→World→Prop} {x y:Operand} {p:Int} (ho:o.op=.buildSlice 81 2 #[(0,x),(1,y)]) (hx:a.eval x=.int .u8 (p/256%256)) (hy:a.eval y=.int .u8 (p%256))
  (h:∀ v,v.heap[w.heap.size]?=some (.cells (WA .u8 2 (prt7 p)) 5 (0,0))→Below w.heap.size w v→K (a.put o.dst (.slice (some ⟨w.heap.size,0,none⟩) 2 2)) v):o.wp Tryz.prog a w K Q:=by
 have hr:=runB72 (p/256%256) (p%256) w
 unfold Oper.wp execOp
 simp only[ho,List.map_toArray,List.map_cons,List.map_nil,hx,hy,Sem.run_bind,hr,Result.andThen_ok,Sem.run_pure,Oper.upon]
 exact h _ (heap_alloc_new w _) ((Below.refl _ _).alloc (Nat.le_refl _) _)
def cookT (v:Bool) (B:Nat→Int) (p:Int):ByteArray:=mkS 1 (fun _=>if v then 6 else 4)++mkS 16 B++mkS 2 (prt7 p)
def CookieR (s:Nat→Int) (v:Bool) (B:Nat→Int) (p:Int):ByteArray:=(keyedT 16 (mkS 32 s) (cookT v B p)).1
theorem rCookie_one (s:Nat→Int) (B:Nat→Int) (p:Int) (w:World) (hs:Byts 32 s) (hBt:Byts 16 B) (v:Bool) (hv:v=true) :
  Calls Tryz.prog 23 #[.agg (WA .u8 32 s),.agg (SC 18 (endV v B p))] w fun e w'=>e=.returned (.string (CookieR s v B p))∧Below w.heap.size w w':=by
 have g0:ArrAt ((w.alloc (.cells (WA .u8 32 s) 22)).alloc (.cells (SC 18 (endV v B p)) 58)) w.heap.size .u8 22 32 s:=heap_alloc2_old w _ _
 have g1:SAt ((w.alloc (.cells (WA .u8 32 s) 22)).alloc (.cells (SC 18 (endV v B p)) 58)) (w.heap.size+1) 58 18 (endV v B p):=heap_alloc2_new w _ _
 have hB:Below w.heap.size w ((w.alloc (.cells (WA .u8 32 s) 22)).alloc (.cells (SC 18 (endV v B p)) 58)):=((Below.refl _ w).alloc (by simp) _).alloc (by simp) _
 have HK:=Hid.mk hs
 have HBB:=Hid.mk hBt
 have HPP:=Hid.mk (prt7_b p)
 have HVV:Hid (∀ j,j<1→(0:Int)≤6∧(6:Int)<256):=Hid.mk (fun _ _=>by omega)
 have HR:Hid (CookieR s v B p=(keyedT 16 (mkS 32 s) (mkS 1 (fun _=>6)++mkS 16 B++mkS 2 (prt7 p))).1):=Hid.mk (by subst hv;rfl)
 have HZ:=Hid.mk (fun u=>rKeyed_run 16 (mkS 32 s) (mkS 1 (fun _=>6)++mkS 16 B++mkS 2 (prt7 p)) u (by rw[ByteArray.size_append,ByteArray.size_append,mkS_size,mkS_size,mkS_size];decide))
 have HL1:Hid ((mkS 1 (fun _=>6)).size+(mkS 16 B).size≤9223372036854775807):=Hid.mk (by rw[mkS_size,mkS_size];decide)
 have HL2:Hid ((mkS 1 (fun _=>6)++mkS 16 B).size+(mkS 2 (prt7 p)).size≤9223372036854775807):=Hid.mk (by rw[ByteArray.size_append,mkS_size,mkS_size,mkS_size];decide)
 generalize CookieR s v B p=R at *
 generalize keyedT 16 (mkS 32 s) (mkS 1 (fun _=>6)++mkS 16 B++mkS 2 (prt7 p))=Z at *
 subst hv
 go_enter Tryz.func23,Tryz.ntmps23
 go_wp2_with (refine wl_value rfl (exec_ld rfl (by rfl) (run_ldB (g1.at 0 (by omega)))) ?_)
 refine wp_gen (fun u=>ArrAt u w.heap.size .u8 22 32 s∧SAt u (w.heap.size+1) 58 18 (endV true B p)∧Below w.heap.size w u) ⟨g0,g1,hB⟩ ?_
 clear g0 g1 hB
 rintro v0 ⟨g0,g1,hB⟩
 have HG0:Hid (∀ u,Below v0.heap.size v0 u→ArrAt u w.heap.size .u8 22 32 s):=Hid.mk (fun u hu=>g0.kept hu)
 have HG1:Hid (∀ u,Below v0.heap.size v0 u→SAt u (w.heap.size+1) 58 18 (endV true B p)):=Hid.mk (fun u hu=>g1.kept hu)
 refine wp_region3 (Below v0.heap.size v0) v0.heap.size
  ([]:List (Nat×Cont))
  [kv (.agg (WA .u8 32 s)),kv (.string (mkS 32 s)),kv (.int .u8 6),ks 1 (WA .u8 1 fun _=>6) 5,kv (.string (mkS 1 fun _=>6)),kv (.pointer (some ⟨(w.heap.size+1),0,none⟩)),kv (.pointer (some ⟨(w.heap.size+1),1,none⟩)),kv (.slice (some ⟨(w.heap.size+1),1,none⟩) 16 16),kv (.string (mkS 16 B)),kv (.string (mkS 1 (fun _=>6)++mkS 16 B)),kv (.pointer (some ⟨(w.heap.size+1),17,none⟩)),kv (.int .i64 p),kv (.int .i64 (p/256)),kv (.int .u8 (p/256%256)),kv (.pointer (some ⟨(w.heap.size+1),17,none⟩)),kv (.int .i64 p),kv (.int .u8 (p%256)),ks 2 (WA .u8 2 (prt7 p)) 5,kv (.string (mkS 2 (prt7 p))),kv (.string (mkS 1 (fun _=>6)++mkS 16 B++mkS 2 (prt7 p))),kv (.tuple #[.string Z.1,.int .i64 Z.2]),kv (.tuple #[.string Z.1,.int .i64 Z.2]),kv (.string Z.1),kv (.int .i64 Z.2),kv (.string Z.1),kv (.int .i64 Z.2)]
  [.none,.none,.none,.none,.none,.none,.none,.none,.none,.none,.none,.none,.none,.none,.none,.none,.none,.none,.none,.none,.none,.none,.none,.none,.none,.none]
  [some 12,some 13,some 14,some 15,some 16,some 17,some 18,some 19,some 20,some 21,some 22,some 23,some 24,some 25,some 26,some 27,some 28,some 29,some 30,some 31,some 32,some 11,some 33,some 34,some 6,some 7]
  [(2,.pointer (some ⟨w.heap.size,0,none⟩)),(3,.pointer (some ⟨(w.heap.size+1),0,none⟩)),(5,.int .u8 6)]
  [[],[.slot 0],[],[.slot 2],[.slot 3,.cont 3 0],[],[.slot 5],[.slot 6],[.slot 7],[.slot 4,.slot 8],[],[.slot 10],[.slot 11],[.slot 12],[],[.slot 14],[.slot 15],[.slot 13,.slot 16],[.slot 17,.cont 17 0],[.slot 9,.slot 18],[.slot 1,.slot 19],[.slot 20],[.slot 21],[.slot 21],[.slot 22],[.slot 23]]
  [.slot 24,.slot 25] [12,13,14,15,16,17,18,19,20,21,22,23,24,25,26,27,28,29,30,31,32,11,33,34,6,7]
  rfl (by kernel_rfl) ⟨rfl,rfl,rfl,trivial⟩ (Below.refl _ v0).drew (Nat.le_refl _) trivial trivial (below_G (Nat.le_refl _) trivial)
  ⟨
   (fun _ _ ww _ hS _ fr _=>sV (look_arr rfl isArr32 (HG0.out ww hS) fr.1)),
   (fun _ _ ww _ _ _ _ kn=>.inl ⟨trivial,fun K hK=>stepc enterText7 rfl (args1 kn.1) (rtext_run s ww HK.out) (fun w' hb=>hK _ _ ⟨touch_below hb,rfl⟩)⟩),
   (fun _ _ _ _ _ _ fr _=>sV (exec_move rfl fr.2.2.1)),
   (fun _ _ _ _ _ _ _ kn=>.inl ⟨trivial,fun K hK=>actB71 rfl kn.1 (fun v hg hb=>hK _ _ ⟨touch_below hb,_,Nat.le_refl _,rfl,obIn hg⟩)⟩),
   (fun _ _ ww _ _ _ _ kn=>sV (exec_conv rfl kn.1.1 (str_back 1 _ 1 ww 1 (fun _=>6) (ArrAt.row (obAt kn.2.1)) HVV.out rfl))),
   (fun _ _ _ _ _ _ fr _=>sV (exec_fe0 rfl fr.2.1)),
   (fun _ _ _ _ _ _ _ kn=>sV (exec_fa1 rfl kn.1)),
   (fun _ _ ww _ _ _ _ kn=>sV (exec_sl (v:=.pointer (some ⟨(w.heap.size+1),1,none⟩)) rfl kn.1 (sl16at (w.heap.size+1) 1 ww))),
   (fun _ _ ww _ hS _ _ kn=>sV (exec_conv rfl kn.1 (str_mid (w.heap.size+1) 1 16 ww B HBB.out (HG1.out ww hS) (by omega) end_b))),
   (fun _ _ _ _ _ _ _ kn=>sV (exec_catS rfl kn.1 kn.2.1 HL1.out)),
   (fun _ _ _ _ _ _ fr _=>sV (exec_fe1 rfl fr.2.1)),
   (fun _ _ ww _ hS _ _ kn=>sV (exec_ld rfl kn.1 (run_ldI ((HG1.out ww hS).at 17 (by omega))))),
   (fun _ _ _ _ _ _ _ kn=>sV (exec_shr8 rfl kn.1 rfl)),
   (fun _ _ ww _ _ _ _ kn=>sV (exec_conv rfl kn.1 (conv_i8 _ ww))),
   (fun _ _ _ _ _ _ fr _=>sV (exec_fe1 rfl fr.2.1)),
   (fun _ _ ww _ hS _ _ kn=>sV (exec_ld rfl kn.1 (run_ldI ((HG1.out ww hS).at 17 (by omega))))),
   (fun _ _ ww _ _ _ _ kn=>sV (exec_conv rfl kn.1 (conv_i8 _ ww))),
   (fun _ _ _ _ _ _ _ kn=>.inl ⟨trivial,fun K hK=>actB72 rfl kn.1 kn.2.1 (fun v hg hb=>hK _ _ ⟨touch_below hb,_,Nat.le_refl _,rfl,obIn hg⟩)⟩),
   (fun _ _ ww _ _ _ _ kn=>sV (exec_conv rfl kn.1.1 (str_back 2 _ 2 ww 2 (prt7 p) (ArrAt.row (obAt kn.2.1)) HPP.out rfl))),
   (fun _ _ _ _ _ _ _ kn=>sV (exec_catS rfl kn.1 kn.2.1 HL2.out)),
   (fun _ _ ww _ _ _ _ kn=>.inl ⟨trivial,fun K hK=>stepc enterKeyed6 rfl (args3 rfl kn.1 kn.2.1) (HZ.out ww) (fun w' hb=>hK _ _ ⟨touch_below hb,rfl⟩)⟩),
   (fun _ _ _ _ _ _ _ kn=>sV (exec_move rfl kn.1)),
   (fun _ _ _ _ _ _ _ kn=>sV (exec_ext rfl kn.1 rfl)),
   (fun _ _ _ _ _ _ _ kn=>sV (exec_ext rfl kn.1 rfl)),
   (fun _ _ _ _ _ _ _ kn=>sV (exec_assign rfl kn.1)),
   (fun _ _ _ _ _ _ _ kn=>sV (exec_assign rfl kn.1)),
   trivial⟩ ?_
 intro vs own v5 hB5 hs5 kn inj
 clear inj hs5
 have e6:vs 6=_:=kn.1
 clear kn HG0 HG1
 replace hB:=hB.trans (hB5.mono hB.size)
 simp only[putAll,Act.put,List.setIfInBounds_toArray,List.set_cons_zero,List.set_cons_succ,e6]
 go_wp2_with fail
 go_ret
 rw[HR.out]
 exact ⟨rfl,hB⟩
theorem rCookie_four (s:Nat→Int) (B:Nat→Int) (p:Int) (w:World) (hs:Byts 32 s) (hBt:Byts 16 B) (v:Bool) (hv:v=false) :
  Calls Tryz.prog 23 #[.agg (WA .u8 32 s),.agg (SC 18 (endV v B p))] w fun e w'=>e=.returned (.string (CookieR s v B p))∧Below w.heap.size w w':=by
 have g0:ArrAt ((w.alloc (.cells (WA .u8 32 s) 22)).alloc (.cells (SC 18 (endV v B p)) 58)) w.heap.size .u8 22 32 s:=heap_alloc2_old w _ _
 have g1:SAt ((w.alloc (.cells (WA .u8 32 s) 22)).alloc (.cells (SC 18 (endV v B p)) 58)) (w.heap.size+1) 58 18 (endV v B p):=heap_alloc2_new w _ _
 have hB:Below w.heap.size w ((w.alloc (.cells (WA .u8 32 s) 22)).alloc (.cells (SC 18 (endV v B p)) 58)):=((Below.refl _ w).alloc (by simp) _).alloc (by simp) _
 have HK:=Hid.mk hs
 have HBB:=Hid.mk hBt
 have HPP:=Hid.mk (prt7_b p)
 have HVV:Hid (∀ j,j<1→(0:Int)≤4∧(4:Int)<256):=Hid.mk (fun _ _=>by omega)
 have HR:Hid (CookieR s v B p=(keyedT 16 (mkS 32 s) (mkS 1 (fun _=>4)++mkS 16 B++mkS 2 (prt7 p))).1):=Hid.mk (by subst hv;rfl)
 have HZ:=Hid.mk (fun u=>rKeyed_run 16 (mkS 32 s) (mkS 1 (fun _=>4)++mkS 16 B++mkS 2 (prt7 p)) u (by rw[ByteArray.size_append,ByteArray.size_append,mkS_size,mkS_size,mkS_size];decide))
 have HL1:Hid ((mkS 1 (fun _=>4)).size+(mkS 16 B).size≤9223372036854775807):=Hid.mk (by rw[mkS_size,mkS_size];decide)
 have HL2:Hid ((mkS 1 (fun _=>4)++mkS 16 B).size+(mkS 2 (prt7 p)).size≤9223372036854775807):=Hid.mk (by rw[ByteArray.size_append,mkS_size,mkS_size,mkS_size];decide)
 generalize CookieR s v B p=R at *
 generalize keyedT 16 (mkS 32 s) (mkS 1 (fun _=>4)++mkS 16 B++mkS 2 (prt7 p))=Z at *
 subst hv
 go_enter Tryz.func23,Tryz.ntmps23
 go_wp2_with (refine wl_value rfl (exec_ld rfl (by rfl) (run_ldB (g1.at 0 (by omega)))) ?_)
 refine wp_gen (fun u=>ArrAt u w.heap.size .u8 22 32 s∧SAt u (w.heap.size+1) 58 18 (endV false B p)∧Below w.heap.size w u) ⟨g0,g1,hB⟩ ?_
 clear g0 g1 hB
 rintro v0 ⟨g0,g1,hB⟩
 have HG0:Hid (∀ u,Below v0.heap.size v0 u→ArrAt u w.heap.size .u8 22 32 s):=Hid.mk (fun u hu=>g0.kept hu)
 have HG1:Hid (∀ u,Below v0.heap.size v0 u→SAt u (w.heap.size+1) 58 18 (endV false B p)):=Hid.mk (fun u hu=>g1.kept hu)
 refine wp_region3 (Below v0.heap.size v0) v0.heap.size
  ([]:List (Nat×Cont))
  [kv (.agg (WA .u8 32 s)),kv (.string (mkS 32 s)),kv (.int .u8 4),ks 1 (WA .u8 1 fun _=>4) 5,kv (.string (mkS 1 fun _=>4)),kv (.pointer (some ⟨(w.heap.size+1),0,none⟩)),kv (.pointer (some ⟨(w.heap.size+1),1,none⟩)),kv (.slice (some ⟨(w.heap.size+1),1,none⟩) 16 16),kv (.string (mkS 16 B)),kv (.string (mkS 1 (fun _=>4)++mkS 16 B)),kv (.pointer (some ⟨(w.heap.size+1),17,none⟩)),kv (.int .i64 p),kv (.int .i64 (p/256)),kv (.int .u8 (p/256%256)),kv (.pointer (some ⟨(w.heap.size+1),17,none⟩)),kv (.int .i64 p),kv (.int .u8 (p%256)),ks 2 (WA .u8 2 (prt7 p)) 5,kv (.string (mkS 2 (prt7 p))),kv (.string (mkS 1 (fun _=>4)++mkS 16 B++mkS 2 (prt7 p))),kv (.tuple #[.string Z.1,.int .i64 Z.2]),kv (.tuple #[.string Z.1,.int .i64 Z.2]),kv (.string Z.1),kv (.int .i64 Z.2),kv (.string Z.1),kv (.int .i64 Z.2)]
  [.none,.none,.none,.none,.none,.none,.none,.none,.none,.none,.none,.none,.none,.none,.none,.none,.none,.none,.none,.none,.none,.none,.none,.none,.none,.none]
  [some 12,some 13,some 14,some 15,some 16,some 17,some 18,some 19,some 20,some 21,some 22,some 23,some 24,some 25,some 26,some 27,some 28,some 29,some 30,some 31,some 32,some 11,some 33,some 34,some 6,some 7]
  [(2,.pointer (some ⟨w.heap.size,0,none⟩)),(3,.pointer (some ⟨(w.heap.size+1),0,none⟩)),(5,.int .u8 4)]
  [[],[.slot 0],[],[.slot 2],[.slot 3,.cont 3 0],[],[.slot 5],[.slot 6],[.slot 7],[.slot 4,.slot 8],[],[.slot 10],[.slot 11],[.slot 12],[],[.slot 14],[.slot 15],[.slot 13,.slot 16],[.slot 17,.cont 17 0],[.slot 9,.slot 18],[.slot 1,.slot 19],[.slot 20],[.slot 21],[.slot 21],[.slot 22],[.slot 23]]
  [.slot 24,.slot 25] [12,13,14,15,16,17,18,19,20,21,22,23,24,25,26,27,28,29,30,31,32,11,33,34,6,7]
  rfl (by kernel_rfl) ⟨rfl,rfl,rfl,trivial⟩ (Below.refl _ v0).drew (Nat.le_refl _) trivial trivial (below_G (Nat.le_refl _) trivial)
  ⟨
   (fun _ _ ww _ hS _ fr _=>sV (look_arr rfl isArr32 (HG0.out ww hS) fr.1)),
   (fun _ _ ww _ _ _ _ kn=>.inl ⟨trivial,fun K hK=>stepc enterText7 rfl (args1 kn.1) (rtext_run s ww HK.out) (fun w' hb=>hK _ _ ⟨touch_below hb,rfl⟩)⟩),
   (fun _ _ _ _ _ _ fr _=>sV (exec_move rfl fr.2.2.1)),
   (fun _ _ _ _ _ _ _ kn=>.inl ⟨trivial,fun K hK=>actB71 rfl kn.1 (fun v hg hb=>hK _ _ ⟨touch_below hb,_,Nat.le_refl _,rfl,obIn hg⟩)⟩),
   (fun _ _ ww _ _ _ _ kn=>sV (exec_conv rfl kn.1.1 (str_back 1 _ 1 ww 1 (fun _=>4) (ArrAt.row (obAt kn.2.1)) HVV.out rfl))),
   (fun _ _ _ _ _ _ fr _=>sV (exec_fe0 rfl fr.2.1)),
   (fun _ _ _ _ _ _ _ kn=>sV (exec_fa1 rfl kn.1)),
   (fun _ _ ww _ _ _ _ kn=>sV (exec_sl (v:=.pointer (some ⟨(w.heap.size+1),1,none⟩)) rfl kn.1 (sl16at (w.heap.size+1) 1 ww))),
   (fun _ _ ww _ hS _ _ kn=>sV (exec_conv rfl kn.1 (str_mid (w.heap.size+1) 1 16 ww B HBB.out (HG1.out ww hS) (by omega) end_b))),
   (fun _ _ _ _ _ _ _ kn=>sV (exec_catS rfl kn.1 kn.2.1 HL1.out)),
   (fun _ _ _ _ _ _ fr _=>sV (exec_fe1 rfl fr.2.1)),
   (fun _ _ ww _ hS _ _ kn=>sV (exec_ld rfl kn.1 (run_ldI ((HG1.out ww hS).at 17 (by omega))))),
   (fun _ _ _ _ _ _ _ kn=>sV (exec_shr8 rfl kn.1 rfl)),
   (fun _ _ ww _ _ _ _ kn=>sV (exec_conv rfl kn.1 (conv_i8 _ ww))),
   (fun _ _ _ _ _ _ fr _=>sV (exec_fe1 rfl fr.2.1)),
   (fun _ _ ww _ hS _ _ kn=>sV (exec_ld rfl kn.1 (run_ldI ((HG1.out ww hS).at 17 (by omega))))),
   (fun _ _ ww _ _ _ _ kn=>sV (exec_conv rfl kn.1 (conv_i8 _ ww))),
   (fun _ _ _ _ _ _ _ kn=>.inl ⟨trivial,fun K hK=>actB72 rfl kn.1 kn.2.1 (fun v hg hb=>hK _ _ ⟨touch_below hb,_,Nat.le_refl _,rfl,obIn hg⟩)⟩),
   (fun _ _ ww _ _ _ _ kn=>sV (exec_conv rfl kn.1.1 (str_back 2 _ 2 ww 2 (prt7 p) (ArrAt.row (obAt kn.2.1)) HPP.out rfl))),
   (fun _ _ _ _ _ _ _ kn=>sV (exec_catS rfl kn.1 kn.2.1 HL2.out)),
   (fun _ _ ww _ _ _ _ kn=>.inl ⟨trivial,fun K hK=>stepc enterKeyed6 rfl (args3 rfl kn.1 kn.2.1) (HZ.out ww) (fun w' hb=>hK _ _ ⟨touch_below hb,rfl⟩)⟩),
   (fun _ _ _ _ _ _ _ kn=>sV (exec_move rfl kn.1)),
   (fun _ _ _ _ _ _ _ kn=>sV (exec_ext rfl kn.1 rfl)),
   (fun _ _ _ _ _ _ _ kn=>sV (exec_ext rfl kn.1 rfl)),
   (fun _ _ _ _ _ _ _ kn=>sV (exec_assign rfl kn.1)),
   (fun _ _ _ _ _ _ _ kn=>sV (exec_assign rfl kn.1)),
   trivial⟩ ?_
 intro vs own v5 hB5 hs5 kn inj
 clear inj hs5
 have e6:vs 6=_:=kn.1
 clear kn HG0 HG1
 replace hB:=hB.trans (hB5.mono hB.size)
 simp only[putAll,Act.put,List.setIfInBounds_toArray,List.set_cons_zero,List.set_cons_succ,e6]
 go_wp2_with fail
 go_ret
 rw[HR.out]
 exact ⟨rfl,hB⟩
theorem rCookie_run (s:Nat→Int) (v:Bool) (B:Nat→Int) (p:Int) (w:World) (hs:Byts 32 s) (hBt:Byts 16 B) :
  Calls Tryz.prog 23 #[.agg (WA .u8 32 s),.agg (SC 18 (endV v B p))] w fun e w'=>e=.returned (.string (CookieR s v B p))∧Below w.heap.size w w':=by
 by_cases hv:v=true
 ·exact rCookie_one s B p w hs hBt v hv
 ·exact rCookie_four s B p w hs hBt v (by simpa using hv)
theorem res_tct {fn:Func} {p q r:Tmp} {ty:TypeId} (h:fn.results=#[.tmp p,.cell q ty,.tmp r]) {tmps:Array Value} {w:World} {g n:Nat} {V:Nat→Value} {x z:Value} (hA:IsSt ty n) (hg:SAt w g ty n V) (hp:tmps.getD p undef=x) (hq:tmps.getD q undef=.pointer (some ⟨g,0,none⟩)) (hr:tmps.getD r undef=z) :
  (results fn tmps).run Tryz.prog w=.ok (.tuple #[x,.agg (SC n V),z]) w:=by
 obtain ⟨d,h1,h2,h3⟩:=hA
 have hp':tmps[p]?.getD undef=x:=by simpa using hp
 have hq':tmps[q]?.getD undef=.pointer (some ⟨g,0,none⟩):=by simpa using hq
 have hr':tmps[r]?.getD undef=z:=by simpa using hr
 have:=run_loadVar_row (P:=Tryz.prog) w g ty ty (SC n V) (0,0) _ hg h1 (by cases d<;>first | rfl | exact h2) (by rw[SC_size];exact h3)
 simp[results,h,hp',hq',hr',asAddr,this]
theorem zeroHand:Tryz.zeroCells31=SC 162 hanZ:=by kernel_rfl
theorem wl_alloc32 {ops:Array Oper} {rest:List Oper} {d:Option Tmp} {t:TypeId} {ps:String} {af:Array Edge} {a:Act} {w:World} {Q:Exit→Act→World→Prop}
  (h:∀ w',ArrAt w' w.heap.size .u8 22 32 (fun _=>0)→Below w.heap.size w w'→wpList Tryz.prog ops Q rest (a.put d (.pointer (some ⟨w.heap.size,0,none⟩))) w') :
  wpList Tryz.prog ops Q ({ dst:=d,op:=.alloc 22,type:=t,pos:=ps,after:=af,guard:=none }::rest) a w :=
 wl_act rfl (act_alloc zero32 rfl (fun w' hb hg=>h w' hg hb))
theorem act_st7 {o:Oper} {a:Act} {w:World} {K:Act→World→Prop} {Q:Exit→Act→World→Prop} {x y:Operand} {ty:TypeId} {g n:Nat} {V V':Nat→Value} (ho:o.op=.store ty x y)
  (hA:IsSt ty n) (h1:∀ i,(V i).oneCell'=true) (hx:a.eval x=.pointer (some ⟨g,0,none⟩)) (hy:a.eval y=.agg (SC n V)) (hg:SAt w g ty n V')
  (h:∀ w2,SAt w2 g ty n V→Only g w w2→K (a.put o.dst undef) w2):o.wp Tryz.prog a w K Q:=by
 obtain ⟨_,_,_,h3⟩:=hA
 have hrun:=run_storeVar_row (P:=Tryz.prog) w g ty ty (SC n V') (SC n V) hg (by rw[SC_size];exact h3) (by rw[SC_size,SC_size]) (SC_one h1)
 unfold Oper.wp execOp
 simp only[ho,hx,hy,Instr.storeAt,Instr.sureAddr,Sem.run_bind,Sem.run_pure,Result.andThen_ok,hrun]
 exact h _ (setRow_heap w g (SC n V') (SC n V) ty (0,0) hg) (only_setRow w g _)
theorem begH_b (t:Nat→Int) (n:Nat):Byts n (begH t):=mixH_b _ _ n
def rndM (s m:Nat→Int):Nat→Int :=
 mrow (mrow (mrow (mrow (mrow (mrow (mrow (mrow (s) 0 4 8 12 (m 0) (m 1)) 1 5 9 13 (m 2) (m 3)) 2 6 10 14 (m 4) (m 5)) 3 7 11 15 (m 6) (m 7)) 0 5 10 15 (m 8) (m 9)) 1 6 11 12 (m 10) (m 11)) 2 7 8 13 (m 12) (m 13)) 3 4 9 14 (m 14) (m 15)
theorem isW:IsArr 238 16:=⟨_,_,Tryz.underlying238,by kernel_rfl⟩
theorem round_eq (m:Nat→Int) (k:Nat) (v:Nat→Int):diaB m k (colB m k v 4) 4=rndM v (fun j=>m (ord k j)):=by
 have e:diaB m k (colB m k v 4) 4=mixR (mixR (mixR (mixR (mixR (mixR (mixR (mixR (v) 0 4 8 12 (m (ord k 0)) (m (ord k 1))) 1 5 9 13 (m (ord k 2)) (m (ord k 3))) 2 6 10 14 (m (ord k 4)) (m (ord k 5))) 3 7 11 15 (m (ord k 6)) (m (ord k 7))) 0 5 10 15 (m (ord k 8)) (m (ord k 9))) 1 6 11 12 (m (ord k 10)) (m (ord k 11))) 2 7 8 13 (m (ord k 12)) (m (ord k 13))) 3 4 9 14 (m (ord k 14)) (m (ord k 15)):=rfl
 rw[e]
 simp only[mixR_eq _ _ _ (show (0:Nat)≠4 by decide) (show (0:Nat)≠8 by decide) (show (0:Nat)≠12 by decide) (show (4:Nat)≠8 by decide) (show (4:Nat)≠12 by decide) (show (8:Nat)≠12 by decide),
  mixR_eq _ _ _ (show (1:Nat)≠5 by decide) (show (1:Nat)≠9 by decide) (show (1:Nat)≠13 by decide) (show (5:Nat)≠9 by decide) (show (5:Nat)≠13 by decide) (show (9:Nat)≠13 by decide),
  mixR_eq _ _ _ (show (2:Nat)≠6 by decide) (show (2:Nat)≠10 by decide) (show (2:Nat)≠14 by decide) (show (6:Nat)≠10 by decide) (show (6:Nat)≠14 by decide) (show (10:Nat)≠14 by decide),
  mixR_eq _ _ _ (show (3:Nat)≠7 by decide) (show (3:Nat)≠11 by decide) (show (3:Nat)≠15 by decide) (show (7:Nat)≠11 by decide) (show (7:Nat)≠15 by decide) (show (11:Nat)≠15 by decide),
  mixR_eq _ _ _ (show (0:Nat)≠5 by decide) (show (0:Nat)≠10 by decide) (show (0:Nat)≠15 by decide) (show (5:Nat)≠10 by decide) (show (5:Nat)≠15 by decide) (show (10:Nat)≠15 by decide),
  mixR_eq _ _ _ (show (1:Nat)≠6 by decide) (show (1:Nat)≠11 by decide) (show (1:Nat)≠12 by decide) (show (6:Nat)≠11 by decide) (show (6:Nat)≠12 by decide) (show (11:Nat)≠12 by decide),
  mixR_eq _ _ _ (show (2:Nat)≠7 by decide) (show (2:Nat)≠8 by decide) (show (2:Nat)≠13 by decide) (show (7:Nat)≠8 by decide) (show (7:Nat)≠13 by decide) (show (8:Nat)≠13 by decide),
  mixR_eq _ _ _ (show (3:Nat)≠4 by decide) (show (3:Nat)≠9 by decide) (show (3:Nat)≠14 by decide) (show (4:Nat)≠9 by decide) (show (4:Nat)≠14 by decide) (show (9:Nat)≠14 by decide)]
 rfl
theorem rndM_w {s m:Nat→Int} (h:∀ i,i<16→W32 (s i)):∀ i,i<16→W32 (rndM s m i):=mrow_w (mrow_w (mrow_w (mrow_w (mrow_w (mrow_w (mrow_w (mrow_w (h) (by decide) (by decide)) (by decide) (by decide)) (by decide) (by decide)) (by decide) (by decide)) (by decide) (by decide)) (by decide) (by decide)) (by decide) (by decide)) (by decide) (by decide)
theorem round_run (s0 m:Nat→Int) (w:World) (W0:∀ i,i<16→W32 (s0 i)) :
  Calls Tryz.prog 214 #[.agg (WA .u32 16 s0),.agg (WA .u32 16 m)] w fun e w'=>e=.returned (.agg (WA .u32 16 (rndM s0 m)))∧Below w.heap.size w w':=by
 have g:ArrAt (((w.alloc (.cells (WA .u32 16 s0) 238)).alloc (.cells (WA .u32 16 m) 238)).alloc (.cells (WA .u32 16 fun _=>0) 238)) w.heap.size .u32 238 16 s0:=heap_a31 w _ _ _
 have gm:ArrAt (((w.alloc (.cells (WA .u32 16 s0) 238)).alloc (.cells (WA .u32 16 m) 238)).alloc (.cells (WA .u32 16 fun _=>0) 238)) (w.heap.size+1) .u32 238 16 m:=heap_a32 w _ _ _
 have g1:ArrAt (((w.alloc (.cells (WA .u32 16 s0) 238)).alloc (.cells (WA .u32 16 m) 238)).alloc (.cells (WA .u32 16 fun _=>0) 238)) (w.heap.size+1+1) .u32 238 16 (fun _=>0):=heap_a3 w _ _ _
 have hB:Below w.heap.size w (((w.alloc (.cells (WA .u32 16 s0) 238)).alloc (.cells (WA .u32 16 m) 238)).alloc (.cells (WA .u32 16 fun _=>0) 238)):=(((Below.refl _ w).alloc (by simp) _).alloc (by simp) _).alloc (by simp;omega) _
 obtain ⟨z,hz⟩:∃ z,rndM s0 m=z:=⟨_,rfl⟩
 rw[hz]
 have HN:=Hid.mk hz
 clear hz
 unfold rndM at HN
 go_enter Tryz.func214,Tryz.ntmps214
 go_wp2_with (first|(refine ld_cell g (by rfl) (by decide) ?_)|(refine ld_cell gm (by rfl) (by decide) ?_))
 refine (mixed_run (s0 0) (s0 4) (s0 8) (s0 12) (m 0) (m 1) _ (W0 4 (by decide)) (W0 12 (by decide))).mono ?_
 rintro e vq ⟨rfl,rfl⟩
 go_wp2_with (first|(refine st_cell (i:=12) g (by rfl) (by rfl) (by decide) ?_;clear g;intro v2 g o2;replace gm:=gm.only o2 (by omega);replace g1:=g1.only o2 (by omega);replace hB:=hB.trans (o2.below (Nat.le_refl _));clear o2;refine Hid.out ?_)|(refine st_cell g (by rfl) (by rfl) (by decide) ?_;clear g;intro v2 g o2;replace gm:=gm.only o2 (by omega);replace g1:=g1.only o2 (by omega);replace hB:=hB.trans (o2.below (Nat.le_refl _));clear o2))
 replace g:ArrAt v2 w.heap.size .u32 238 16 (mrow s0 0 4 8 12 (m 0) (m 1)):=g
 have W1:=mrow_w (a:=0) (b:=4) (c:=8) (d:=12) (x:=(m 0)) (y:=(m 1)) W0 (by decide) (by decide)
 generalize mrow s0 0 4 8 12 (m 0) (m 1)=s1 at *
 clear W0
 refine Hid.mk ?_
 go_wp2_with (first|(refine ld_cell g (by rfl) (by decide) ?_)|(refine ld_cell gm (by rfl) (by decide) ?_))
 refine (mixed_run (s1 1) (s1 5) (s1 9) (s1 13) (m 2) (m 3) _ (W1 5 (by decide)) (W1 13 (by decide))).mono ?_
 rintro e vq ⟨rfl,rfl⟩
 go_wp2_with (first|(refine st_cell (i:=13) g (by rfl) (by rfl) (by decide) ?_;clear g;intro v2 g o2;replace gm:=gm.only o2 (by omega);replace g1:=g1.only o2 (by omega);replace hB:=hB.trans (o2.below (Nat.le_refl _));clear o2;refine Hid.out ?_)|(refine st_cell g (by rfl) (by rfl) (by decide) ?_;clear g;intro v2 g o2;replace gm:=gm.only o2 (by omega);replace g1:=g1.only o2 (by omega);replace hB:=hB.trans (o2.below (Nat.le_refl _));clear o2))
 replace g:ArrAt v2 w.heap.size .u32 238 16 (mrow s1 1 5 9 13 (m 2) (m 3)):=g
 have W2:=mrow_w (a:=1) (b:=5) (c:=9) (d:=13) (x:=(m 2)) (y:=(m 3)) W1 (by decide) (by decide)
 generalize mrow s1 1 5 9 13 (m 2) (m 3)=s2 at *
 clear W1
 refine Hid.mk ?_
 go_wp2_with (first|(refine ld_cell g (by rfl) (by decide) ?_)|(refine ld_cell gm (by rfl) (by decide) ?_))
 refine (mixed_run (s2 2) (s2 6) (s2 10) (s2 14) (m 4) (m 5) _ (W2 6 (by decide)) (W2 14 (by decide))).mono ?_
 rintro e vq ⟨rfl,rfl⟩
 go_wp2_with (first|(refine st_cell (i:=14) g (by rfl) (by rfl) (by decide) ?_;clear g;intro v2 g o2;replace gm:=gm.only o2 (by omega);replace g1:=g1.only o2 (by omega);replace hB:=hB.trans (o2.below (Nat.le_refl _));clear o2;refine Hid.out ?_)|(refine st_cell g (by rfl) (by rfl) (by decide) ?_;clear g;intro v2 g o2;replace gm:=gm.only o2 (by omega);replace g1:=g1.only o2 (by omega);replace hB:=hB.trans (o2.below (Nat.le_refl _));clear o2))
 replace g:ArrAt v2 w.heap.size .u32 238 16 (mrow s2 2 6 10 14 (m 4) (m 5)):=g
 have W3:=mrow_w (a:=2) (b:=6) (c:=10) (d:=14) (x:=(m 4)) (y:=(m 5)) W2 (by decide) (by decide)
 generalize mrow s2 2 6 10 14 (m 4) (m 5)=s3 at *
 clear W2
 refine Hid.mk ?_
 go_wp2_with (first|(refine ld_cell g (by rfl) (by decide) ?_)|(refine ld_cell gm (by rfl) (by decide) ?_))
 refine (mixed_run (s3 3) (s3 7) (s3 11) (s3 15) (m 6) (m 7) _ (W3 7 (by decide)) (W3 15 (by decide))).mono ?_
 rintro e vq ⟨rfl,rfl⟩
 go_wp2_with (first|(refine st_cell (i:=15) g (by rfl) (by rfl) (by decide) ?_;clear g;intro v2 g o2;replace gm:=gm.only o2 (by omega);replace g1:=g1.only o2 (by omega);replace hB:=hB.trans (o2.below (Nat.le_refl _));clear o2;refine Hid.out ?_)|(refine st_cell g (by rfl) (by rfl) (by decide) ?_;clear g;intro v2 g o2;replace gm:=gm.only o2 (by omega);replace g1:=g1.only o2 (by omega);replace hB:=hB.trans (o2.below (Nat.le_refl _));clear o2))
 replace g:ArrAt v2 w.heap.size .u32 238 16 (mrow s3 3 7 11 15 (m 6) (m 7)):=g
 have W4:=mrow_w (a:=3) (b:=7) (c:=11) (d:=15) (x:=(m 6)) (y:=(m 7)) W3 (by decide) (by decide)
 generalize mrow s3 3 7 11 15 (m 6) (m 7)=s4 at *
 clear W3
 refine Hid.mk ?_
 go_wp2_with (first|(refine ld_cell g (by rfl) (by decide) ?_)|(refine ld_cell gm (by rfl) (by decide) ?_))
 refine (mixed_run (s4 0) (s4 5) (s4 10) (s4 15) (m 8) (m 9) _ (W4 5 (by decide)) (W4 15 (by decide))).mono ?_
 rintro e vq ⟨rfl,rfl⟩
 go_wp2_with (first|(refine st_cell (i:=15) g (by rfl) (by rfl) (by decide) ?_;clear g;intro v2 g o2;replace gm:=gm.only o2 (by omega);replace g1:=g1.only o2 (by omega);replace hB:=hB.trans (o2.below (Nat.le_refl _));clear o2;refine Hid.out ?_)|(refine st_cell g (by rfl) (by rfl) (by decide) ?_;clear g;intro v2 g o2;replace gm:=gm.only o2 (by omega);replace g1:=g1.only o2 (by omega);replace hB:=hB.trans (o2.below (Nat.le_refl _));clear o2))
 replace g:ArrAt v2 w.heap.size .u32 238 16 (mrow s4 0 5 10 15 (m 8) (m 9)):=g
 have W5:=mrow_w (a:=0) (b:=5) (c:=10) (d:=15) (x:=(m 8)) (y:=(m 9)) W4 (by decide) (by decide)
 generalize mrow s4 0 5 10 15 (m 8) (m 9)=s5 at *
 clear W4
 refine Hid.mk ?_
 go_wp2_with (first|(refine ld_cell g (by rfl) (by decide) ?_)|(refine ld_cell gm (by rfl) (by decide) ?_))
 refine (mixed_run (s5 1) (s5 6) (s5 11) (s5 12) (m 10) (m 11) _ (W5 6 (by decide)) (W5 12 (by decide))).mono ?_
 rintro e vq ⟨rfl,rfl⟩
 go_wp2_with (first|(refine st_cell (i:=12) g (by rfl) (by rfl) (by decide) ?_;clear g;intro v2 g o2;replace gm:=gm.only o2 (by omega);replace g1:=g1.only o2 (by omega);replace hB:=hB.trans (o2.below (Nat.le_refl _));clear o2;refine Hid.out ?_)|(refine st_cell g (by rfl) (by rfl) (by decide) ?_;clear g;intro v2 g o2;replace gm:=gm.only o2 (by omega);replace g1:=g1.only o2 (by omega);replace hB:=hB.trans (o2.below (Nat.le_refl _));clear o2))
 replace g:ArrAt v2 w.heap.size .u32 238 16 (mrow s5 1 6 11 12 (m 10) (m 11)):=g
 have W6:=mrow_w (a:=1) (b:=6) (c:=11) (d:=12) (x:=(m 10)) (y:=(m 11)) W5 (by decide) (by decide)
 generalize mrow s5 1 6 11 12 (m 10) (m 11)=s6 at *
 clear W5
 refine Hid.mk ?_
 go_wp2_with (first|(refine ld_cell g (by rfl) (by decide) ?_)|(refine ld_cell gm (by rfl) (by decide) ?_))
 refine (mixed_run (s6 2) (s6 7) (s6 8) (s6 13) (m 12) (m 13) _ (W6 7 (by decide)) (W6 13 (by decide))).mono ?_
 rintro e vq ⟨rfl,rfl⟩
 go_wp2_with (first|(refine st_cell (i:=13) g (by rfl) (by rfl) (by decide) ?_;clear g;intro v2 g o2;replace gm:=gm.only o2 (by omega);replace g1:=g1.only o2 (by omega);replace hB:=hB.trans (o2.below (Nat.le_refl _));clear o2;refine Hid.out ?_)|(refine st_cell g (by rfl) (by rfl) (by decide) ?_;clear g;intro v2 g o2;replace gm:=gm.only o2 (by omega);replace g1:=g1.only o2 (by omega);replace hB:=hB.trans (o2.below (Nat.le_refl _));clear o2))
 replace g:ArrAt v2 w.heap.size .u32 238 16 (mrow s6 2 7 8 13 (m 12) (m 13)):=g
 have W7:=mrow_w (a:=2) (b:=7) (c:=8) (d:=13) (x:=(m 12)) (y:=(m 13)) W6 (by decide) (by decide)
 generalize mrow s6 2 7 8 13 (m 12) (m 13)=s7 at *
 clear W6
 refine Hid.mk ?_
 go_wp2_with (first|(refine ld_cell g (by rfl) (by decide) ?_)|(refine ld_cell gm (by rfl) (by decide) ?_))
 refine (mixed_run (s7 3) (s7 4) (s7 9) (s7 14) (m 14) (m 15) _ (W7 4 (by decide)) (W7 14 (by decide))).mono ?_
 rintro e vq ⟨rfl,rfl⟩
 go_wp2_with (first|(refine st_cell (i:=14) g (by rfl) (by rfl) (by decide) ?_;clear g;intro v2 g o2;replace gm:=gm.only o2 (by omega);replace g1:=g1.only o2 (by omega);replace hB:=hB.trans (o2.below (Nat.le_refl _));clear o2;refine Hid.out ?_)|(refine st_cell g (by rfl) (by rfl) (by decide) ?_;clear g;intro v2 g o2;replace gm:=gm.only o2 (by omega);replace g1:=g1.only o2 (by omega);replace hB:=hB.trans (o2.below (Nat.le_refl _));clear o2))
 replace g:ArrAt v2 w.heap.size .u32 238 16 (mrow s7 3 4 9 14 (m 14) (m 15)):=g
 have W8:=mrow_w (a:=3) (b:=4) (c:=9) (d:=14) (x:=(m 14)) (y:=(m 15)) W7 (by decide) (by decide)
 rw[HN.out] at g
 refine Hid.mk ?_
 go_wp2_with (first|(refine ld_arr isW g (by rfl) ?_)|(refine st_arr isW g1 (by rfl) (by rfl) ?_;intro v4 g4 o4))
 exact bodyPost_ret (v:=.agg (WA .u32 16 z)) (res_arr rfl isW g4 rfl) rfl ⟨rfl,hB.trans (o4.below (by omega))⟩
def prt (f:Nat→Int) (n i:Nat):Int:=if i<n then f i else 0
theorem prt_next (f:Nat→Int) (n:Nat):upd (prt f n) n (f n)=prt f (n+1):=by
 funext i
 unfold upd prt
 by_cases e:i=n
 ·subst e;simp
 ·rw[if_neg e]
  by_cases h:i<n
  ·rw[if_pos h,if_pos (by omega)]
  ·rw[if_neg h,if_neg (by omega)]
theorem prt_zero (f:Nat→Int):prt f 0=fun _=>0:=by
 funext i
 unfold prt
 rw[if_neg (by omega)]
theorem prt_full {f:Nat→Int} {n:Nat}:∀ i,i<n→prt f n i=f i:=fun i hi=>by unfold prt;rw[if_pos hi]
theorem isW':IsArr 238 16:=⟨_,_,Tryz.underlying238,by kernel_rfl⟩
theorem inOrder_run (s:Nat→Int) (k:Nat) (w:World) (hT:Tabs w) (hk:k<10) :
  Calls Tryz.prog 215 #[.agg (WA .u32 16 s),.int .i64 (k:Int)] w fun e w'=>e=.returned (.agg (WA .u32 16 fun j=>s (ord k j)))∧Below w.heap.size w w':=by
 have g0:ArrAt (((w.alloc (.cells (WA .u32 16 s) 238)).alloc (.cells (WA .u32 16 fun _=>0) 238)).alloc (.cells (WA .u32 16 fun _=>0) 238)) w.heap.size .u32 238 16 s:=heap_a31 w _ _ _
 have g1:ArrAt (((w.alloc (.cells (WA .u32 16 s) 238)).alloc (.cells (WA .u32 16 fun _=>0) 238)).alloc (.cells (WA .u32 16 fun _=>0) 238)) (w.heap.size+1) .u32 238 16 (fun _=>0):=heap_a32 w _ _ _
 have g2:ArrAt (((w.alloc (.cells (WA .u32 16 s) 238)).alloc (.cells (WA .u32 16 fun _=>0) 238)).alloc (.cells (WA .u32 16 fun _=>0) 238)) (w.heap.size+1+1) .u32 238 16 (fun _=>0):=heap_a3 w _ _ _
 have hB:Below w.heap.size w (((w.alloc (.cells (WA .u32 16 s) 238)).alloc (.cells (WA .u32 16 fun _=>0) 238)).alloc (.cells (WA .u32 16 fun _=>0) 238)):=(((Below.refl _ w).alloc (by simp) _).alloc (by simp) _).alloc (by simp;omega) _
 have hTw:=Hid.mk hT
 have h2:=hT.two
 go_enter Tryz.func215,Tryz.ntmps215
 go_wp2_with fail
 go_loopg [7] 16 (fun m i v=>∃ j:Nat,Hid (m+j=16)∧i=.int .i64 j∧ArrAt v w.heap.size .u32 238 16 s∧ArrAt v (w.heap.size+1) .u32 238 16 (fun _=>0)∧ArrAt v (w.heap.size+1+1) .u32 238 16 (prt (fun j=>s (ord k j)) j)∧Below w.heap.size w v)
 case atStart=>exact ⟨0,Hid.mk rfl,rfl,g0,g1,by rw[prt_zero];exact g2,hB⟩
 case round =>
  clear g0 g1 g2 hB
  obtain ⟨j,HJ,rfl,g0,g1,g2,hB⟩:=hrel
  have hj16:j≤16:=by have:=HJ.out;omega
  by_cases hlt:j<16
  ·have co:=(hTw.out.below hB h2).ord k hk j hlt
   have hol:=ord_lt k hk j hlt
   unfold ordI at co
   have HN:=Hid.mk (prt_next (fun j=>s (ord k j)) j)
   have cs:=g0.cell (ord k j) hol
   have c2:=g2.cell j hlt
   have f2:=g2.free j
   generalize ord k j=o at *
   go_wp2_with fail
   go_roundg (16-(j+1))
   case rel=>exact ⟨j+1,Hid.mk (by omega),by go_num,g0.other _ (by omega),g1.other _ (by omega),by rw[← HN.out];exact g2.set j _ hlt,Below.setCell hB (by simp;omega) _⟩
   case measure=>have:=HJ.out;omega
  ·have hj2:j=16:=by omega
   subst hj2
   clear hlt hj16 HJ
   replace g2:=g2.congr (s':=fun j=>s (ord k j)) prt_full
   go_wp2_with (first|(refine ld_arr isW' g2 (by rfl) ?_)|(refine st_arr isW' g1 (by rfl) (by rfl) ?_;intro v4 g4 o4))
   exact bodyPost_ret (v:=.agg (WA .u32 16 fun j=>s (ord k j))) (res_arr rfl isW' g4 rfl) rfl ⟨rfl,hB.trans (o4.below (by omega))⟩
def pwd (s:Nat→Int) (i:Nat):Nat→Int
 | 0=>0
 | 1=>s (4*i)
 | 2=>s (4*i)+s (4*i+1)*256
 | 3=>s (4*i)+s (4*i+1)*256+s (4*i+2)*65536
 | _=>s (4*i)+s (4*i+1)*256+s (4*i+2)*65536+s (4*i+3)*16777216
theorem upd_self (s:Nat→Int) (i:Nat) (x:Int) (h:s i=x):upd s i x=s:=by
 funext j
 unfold upd
 split
 ·subst_vars;rfl
 ·rfl
theorem or_zero8 {x:Int} (h:0≤x∧x<256):bits .or .u32 0 x=x:=by
 have:=or_add 0 x 0 1 rfl (by omega) (by omega) (by omega) h.1 (by omega)
 simpa using this
theorem wordsOf_run (s:Nat→Int) (w:World) (hs:Byts 64 s) :
  Calls Tryz.prog 213 #[.agg (WA .u8 64 s)] w fun e w'=>e=.returned (.agg (WA .u32 16 (bwd s)))∧Below w.heap.size w w':=by
 have g0:ArrAt (((w.alloc (.cells (WA .u8 64 s) 183)).alloc (.cells (WA .u32 16 fun _=>0) 238)).alloc (.cells (WA .u32 16 fun _=>0) 238)) w.heap.size .u8 183 64 s:=heap_a31 w _ _ _
 have g1:ArrAt (((w.alloc (.cells (WA .u8 64 s) 183)).alloc (.cells (WA .u32 16 fun _=>0) 238)).alloc (.cells (WA .u32 16 fun _=>0) 238)) (w.heap.size+1) .u32 238 16 (fun _=>0):=heap_a32 w _ _ _
 have g2:ArrAt (((w.alloc (.cells (WA .u8 64 s) 183)).alloc (.cells (WA .u32 16 fun _=>0) 238)).alloc (.cells (WA .u32 16 fun _=>0) 238)) (w.heap.size+1+1) .u32 238 16 (fun _=>0):=heap_a3 w _ _ _
 have hB:Below w.heap.size w (((w.alloc (.cells (WA .u8 64 s) 183)).alloc (.cells (WA .u32 16 fun _=>0) 238)).alloc (.cells (WA .u32 16 fun _=>0) 238)):=(((Below.refl _ w).alloc (by simp) _).alloc (by simp) _).alloc (by simp;omega) _
 go_enter Tryz.func213,Tryz.ntmps213
 go_wp2_with fail
 go_loopg [6] 16 (fun m i v=>∃ k:Nat,Hid (m+k=16)∧i=.int .i64 k∧ArrAt v w.heap.size .u8 183 64 s∧ArrAt v (w.heap.size+1) .u32 238 16 (fun _=>0)∧ArrAt v (w.heap.size+1+1) .u32 238 16 (prt (bwd s) k)∧Below w.heap.size w v)
 case atStart=>exact ⟨0,Hid.mk rfl,rfl,g0,g1,by rw[prt_zero];exact g2,hB⟩
 case round =>
  clear g0 g1 g2 hB
  obtain ⟨k,HK,rfl,g0,g1,g2,hB⟩:=hrel
  have hk16:k≤16:=by have:=HK.out;omega
  by_cases hlt:k<16
  ·have HN:=Hid.mk (prt_next (bwd s) k)
   have hd:decide ((k:Int)<16)=true:=by simp;omega
   go_wp2_with fail
   replace g2:ArrAt wr (w.heap.size+1+1) .u32 238 16 (upd (prt (bwd s) k) k (pwd s k 0)):=by rw[upd_self _ _ _ (by show prt (bwd s) k k=0;unfold prt;rw[if_neg (by omega)])];exact g2
   generalize prt (bwd s) k=p at *
   generalize wr=wo at *
   generalize gk=gz at *
   have h0:=hs (4*k) (by omega)
   have h1:=hs (4*k+1) (by omega)
   have h2:=hs (4*k+2) (by omega)
   have h3:=hs (4*k+3) (by omega)
   have HH:=Hid.mk (And.intro h0 (And.intro h1 (And.intro h2 h3)))
   clear h0 h1 h2 h3
   go_loopg [9] 4 (fun m i v=>∃ j:Nat,Hid (m+j=4)∧i=.int .i64 j∧ArrAt v w.heap.size .u8 183 64 s∧ArrAt v (w.heap.size+1) .u32 238 16 (fun _=>0)∧ArrAt v (w.heap.size+1+1) .u32 238 16 (upd p k (pwd s k j))∧Below w.heap.size w v)
   case atStart=>exact ⟨0,Hid.mk rfl,rfl,g0,g1,g2,hB⟩
   case round =>
    clear g0 g1 g2 hB
    obtain ⟨j,HJ,rfl,g0,g1,g2,hB⟩:=hrel
    have hj4:j=0∨j=1∨j=2∨j=3∨j=4:=by have:=HJ.out;omega
    rcases hj4 with rfl | rfl | rfl | rfl | rfl
    ·have e0:bits .or .u32 0 (s (4*k))=s (4*k):=or_zero8 HH.out.1
     have cb:=g0.cell (4*k) (by omega)
     have cw:=g2.cell k hlt
     have fw:=g2.free k
     rw[show upd p k (pwd s k 0) k=pwd s k 0 by unfold upd;rw[if_pos rfl]] at cw
     unfold pwd at cw
     have hb0:=HH.out.1
     have g2n:=g2.set k (pwd s k 1) hlt
     rw[upd_upd] at g2n
     have HG:=Hid.mk (g2n)
     clear g2n
     unfold pwd at HG
     go_wp2_with fail
     go_region
     go_wp2_with fail
     go_roundg 3
     case rel=>exact ⟨1,Hid.mk rfl,by go_num,g0.other _ (by omega),g1.other _ (by omega),HG.out,(Below.setCell hB (by simp;omega) _).drew⟩
     case measure=>have:=HJ.out;omega
    ·have e0:bits .or .u32 (s (4*k)) (s (4*k+1)*256)=s (4*k)+s (4*k+1)*256:=by obtain ⟨h0,h1,h2,h3⟩:=HH.out;exact or_add _ _ 8 256 rfl (by omega) (by omega) (by omega) (by omega) (by omega)
     have cb:=g0.cell (4*k+1) (by omega)
     have cw:=g2.cell k hlt
     have fw:=g2.free k
     rw[show upd p k (pwd s k 1) k=pwd s k 1 by unfold upd;rw[if_pos rfl]] at cw
     unfold pwd at cw
     have hb0:=HH.out.2.1
     have g2n:=g2.set k (pwd s k 2) hlt
     rw[upd_upd] at g2n
     have HG:=Hid.mk (g2n)
     clear g2n
     unfold pwd at HG
     go_wp2_with fail
     go_region
     go_wp2_with fail
     go_roundg 2
     case rel=>exact ⟨2,Hid.mk rfl,by go_num,g0.other _ (by omega),g1.other _ (by omega),HG.out,(Below.setCell hB (by simp;omega) _).drew⟩
     case measure=>have:=HJ.out;omega
    ·have e0:bits .or .u32 (s (4*k)+s (4*k+1)*256) (s (4*k+2)*65536)=s (4*k)+s (4*k+1)*256+s (4*k+2)*65536:=by obtain ⟨h0,h1,h2,h3⟩:=HH.out;exact or_add _ _ 16 65536 rfl (by omega) (by omega) (by omega) (by omega) (by omega)
     have cb:=g0.cell (4*k+2) (by omega)
     have cw:=g2.cell k hlt
     have fw:=g2.free k
     rw[show upd p k (pwd s k 2) k=pwd s k 2 by unfold upd;rw[if_pos rfl]] at cw
     unfold pwd at cw
     have hb0:=HH.out.2.2.1
     have g2n:=g2.set k (pwd s k 3) hlt
     rw[upd_upd] at g2n
     have HG:=Hid.mk (g2n)
     clear g2n
     unfold pwd at HG
     go_wp2_with fail
     go_region
     go_wp2_with fail
     go_roundg 1
     case rel=>exact ⟨3,Hid.mk rfl,by go_num,g0.other _ (by omega),g1.other _ (by omega),HG.out,(Below.setCell hB (by simp;omega) _).drew⟩
     case measure=>have:=HJ.out;omega
    ·have e0:bits .or .u32 (s (4*k)+s (4*k+1)*256+s (4*k+2)*65536) (s (4*k+3)*16777216)=s (4*k)+s (4*k+1)*256+s (4*k+2)*65536+s (4*k+3)*16777216:=by obtain ⟨h0,h1,h2,h3⟩:=HH.out;exact or_add _ _ 24 16777216 rfl (by omega) (by omega) (by omega) (by omega) (by omega)
     have cb:=g0.cell (4*k+3) (by omega)
     have cw:=g2.cell k hlt
     have fw:=g2.free k
     rw[show upd p k (pwd s k 3) k=pwd s k 3 by unfold upd;rw[if_pos rfl]] at cw
     unfold pwd at cw
     have hb0:=HH.out.2.2.2
     have g2n:=g2.set k (pwd s k 4) hlt
     rw[upd_upd] at g2n
     have HG:=Hid.mk (g2n)
     clear g2n
     unfold pwd at HG
     go_wp2_with fail
     go_region
     go_wp2_with fail
     go_roundg 0
     case rel=>exact ⟨4,Hid.mk rfl,by go_num,g0.other _ (by omega),g1.other _ (by omega),HG.out,(Below.setCell hB (by simp;omega) _).drew⟩
     case measure=>have:=HJ.out;omega
    ·replace g2:ArrAt wr (w.heap.size+1+1) .u32 238 16 (upd p k (bwd s k)):=by
      have e:pwd s k 4=bwd s k:=by show s (4*k)+s (4*k+1)*256+s (4*k+2)*65536+s (4*k+3)*16777216=_;unfold bwd;omega
      rw[← e]
      exact g2
     rw[HN.out] at g2
     go_wp2_with fail
     go_roundg (16-(k+1))
     case rel=>exact ⟨k+1,Hid.mk (by omega),by go_num,g0,g1,g2,hB⟩
     case measure=>have:=HK.out;omega
  ·have hk2:k=16:=by omega
   subst hk2
   clear hlt hk16 HK
   replace g2:=g2.congr (s':=bwd s) prt_full
   go_wp2_with (first|(refine ld_arr isW' g2 (by rfl) ?_)|(refine st_arr isW' g1 (by rfl) (by rfl) ?_;intro v4 g4 o4))
   exact bodyPost_ret (v:=.agg (WA .u32 16 (bwd s))) (res_arr rfl isW' g4 rfl) rfl ⟨rfl,hB.trans (o4.below (by omega))⟩
end Go.Proofs.YthghcjepdhkfdaaGreatDoor
