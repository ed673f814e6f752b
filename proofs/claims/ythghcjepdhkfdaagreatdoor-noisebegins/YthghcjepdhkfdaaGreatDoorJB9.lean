/-
  Own text. What the document's step (layer 2) gives: the ladder's step.
-/
import Derived.Test.YthghcjepdhkfdaaGreatDoorJB8
import Derived.Test.YthghcjepdhkfdaaGreatDoorJB1
set_option maxHeartbeats 16000000
set_option maxRecDepth 100000
open Array renaming ext_getElem?→AcK,getElem?_eq_getElem→Acx,getElem?_eq_none→Acv,getElem?_setIfInBounds→AcI,length_toList→AcE
open Int renaming tdiv_eq_ediv_of_nonneg→Ac8,tmod_eq_emod_of_nonneg→Acz,toNat_natCast→AcB
open List renaming length_cons→AcC,map_cons→Acu,map_nil→Acq,map_toArray→Acs,setIfInBounds_toArray→Aci,set_cons_succ→Ach,set_cons_zero→Acj
open Nat renaming add_zero→Ac6,le_refl→Acg,le_trans→Acp,lt_of_lt_of_le→AcH,ne_of_lt→Ack,zero_add→Acl
namespace Go.Proofs.YthghcjepdhkfdaaGreatDoor.Fld
open Go.RowKit Go.Proofs
open Tryz
theorem Fh(args:Array Value)(w:World):(callFunc 126 args).run prog w=.ok (.enter 126 args) w:=by kernel_rfl
theorem LE(args:Array Value)(w:World):(callFunc 156 args).run prog w=.ok (.enter 156 args) w:=by kernel_rfl
theorem TX(args:Array Value)(w:World):(callFunc 157 args).run prog w=.ok (.enter 157 args) w:=by kernel_rfl
theorem Kd(args:Array Value)(w:World):(callFunc 158 args).run prog w=.ok (.enter 158 args) w:=by kernel_rfl
inductive Kn where
 | val (v:Value)
 | fresh (t:TypeId) (n:Nat)
def kn(B:Nat)(L:List Kn)(i:Nat)(v:Value)(w:World):Prop:=
 match L.getD i (.val undef) with
 | .val u=>v=u
 | .fresh t m=>∃b,v=.pointer (some ⟨b,0,none⟩)∧B≤b∧∃cs:Array Value,w.heap[b]?=some (.cells cs t (0,0))∧cs.size=m
theorem WW{B:Nat}{L:List Kn}{i:Nat}{v:Value}{w:World}{t:TypeId}{m:Nat}(h:kn B L i v w)(hL:L.getD i (.val undef)=.fresh t m):∃b,v=.pointer (some ⟨b,0,none⟩)∧B≤b∧∃cs:Array Value,w.heap[b]?=some (.cells cs t (0,0))∧cs.size=m:=by
 unfold kn at h;rw[hL] at h;exact h
theorem Aa2{B:Nat}{L:List Kn}{i:Nat}{v u:Value}{w:World}(h:kn B L i v w)(hL:L.getD i (.val undef)=.val u):v=u:=by
 unfold kn at h;rw[hL] at h;exact h
theorem WX(B:Nat)(L:List Kn)(i:Nat)(v:Value)(w w':World)(h:kn B L i v w)(hb:Below w.heap.size w w'):kn B L i v w':=by
 unfold kn at *
 split at h
 ·exact h
 ·obtain⟨b,e,hB,cs,hc,hs⟩:=h
  exact⟨b,e,hB,cs,Aj hb hc (Aa hc),hs⟩
theorem QB{o:Oper}{a:Act}{w:World}{K:Act→World→Prop}{Q:Exit→Act→World→Prop}(ho:o.op=.alloc 156)(h:∀w' b,Below w.heap.size w w'→w.heap.size≤b→(∃cs:Array Value,w'.heap[b]?=some (.cells cs 156 (0,0))∧cs.size=128)→K (a.put o.dst (.pointer (some ⟨b,0,none⟩))) w'):o.wp prog a w K Q:=by
 have hz:=Ga w;unfold Oper.wp execOp;simp only[ho];simp[go_sem,hz];exact h _ _ ((Below.refl _ _).alloc (Acg _) _) (Acg _) ⟨_,heap_alloc_new w _,AP 0 0 0 0⟩
theorem WY(w:World):(Instr.build 22 #[(0,.int .u8 65),(1,.int .u8 219),(2,.int .u8 1)]).run prog w=.ok (.agg (BA 121665)) w:=by kernel_rfl
theorem TY{a:Act}{o:Oper}{w:World}(ho:o.op=.build 22 #[(0,.const (.int .u8 65)),(1,.const (.int .u8 219)),(2,.const (.int .u8 1))]):(execOp a.eval o).run prog w=.ok (.value (.agg (BA 121665))) w:=by
 have h:=WY w;unfold execOp;simp only[ho,Acs,Acu,Acq,Act.eval,Sem.run_bind,h,Result.andThen_ok,Sem.run_pure]
theorem WZ:kN=ofI 121665:=fp_ext (by rw[ofI_val];decide +kernel)
theorem TZ(b:Bool)(x z v w u X Z V W a1 b1 c1 d1 aa bb ee da cb nx t1 t2 nz t3 nv t4 t5 nw:Int)(hX:tb b x v=X)(hZ:tb b z w=Z)(hV:tb b v x=V)(hW:tb b w z=W)(ha1:(X+Z)%P255=a1)(hb1:(X-Z)%P255=b1)(hc1:(V+W)%P255=c1)(hd1:(V-W)%P255=d1)(haa:a1*a1%P255=aa)(hbb:b1*b1%P255=bb)(hee:(aa-bb)%P255=ee)(hda:d1*a1%P255=da)(hcb:c1*b1%P255=cb)(hnx:aa*bb%P255=nx)(ht1:121665*ee%P255=t1)(ht2:(aa+t1)%P255=t2)(hnz:ee*t2%P255=nz)(ht3:(da+cb)%P255=t3)(hnv:t3*t3%P255=nv)(ht4:(da-cb)%P255=t4)(ht5:t4*t4%P255=t5)(hnw:u*t5%P255=nw):QI (tb b nx nv) (tb b nz nw) (tb b nv nx) (tb b nw nz)=Qd.step kN (ofI u) b (QI x z v w):=by
 rw[WZ];subst hX hZ hV hW ha1 hb1 hc1 hd1 haa hbb hee hda hcb hnx ht1 ht2 hnz ht3 hnv ht4 ht5 hnw;cases b<;>simp only[tb,QI,Qd.step,Qd.turn,Qd.core,Bool.false_eq_true,if_false,if_true,RT,K3,Od,RV]
theorem El{b:Bool}{p q:Int}(hp:N256 p)(hq:N256 q):N256 (tb b p q):=by cases b<;>simp only[tb,Bool.false_eq_true,if_false,if_true]<;>assumption
theorem Xa(x z v w u:Int)(b:Bool)(wd:World)(hx:N256 x)(hz:N256 z)(hv:N256 v)(hw:N256 w)(NU:N256 u):Calls prog 125 #[.agg (Q4 x z v w),.agg (BA u),.bool b] wd fun e w'=>(∃x' z' v' w2,e=.returned (.agg (Q4 x' z' v' w2))∧N256 x'∧N256 z'∧N256 v'∧N256 w2∧QI x' z' v' w2=Qd.step kN (ofI u) b (QI x z v w))∧Below wd.heap.size wd w':=by
 have hzero:=Ga;have NX:N256 (tb b x v):=El hx hv;have NZ:N256 (tb b z w):=El hz hw;have NV:N256 (tb b v x):=El hv hx;have NW:N256 (tb b w z):=El hw hz;have Nm:N256 121665:=by unfold N256 Bm;omega
 obtain⟨X,hX⟩:∃y,tb b x v=y:=⟨_,rfl⟩;obtain⟨Z,hZ⟩:∃y,tb b z w=y:=⟨_,rfl⟩;obtain⟨V,hV⟩:∃y,tb b v x=y:=⟨_,rfl⟩;obtain⟨W,hW⟩:∃y,tb b w z=y:=⟨_,rfl⟩;rw[hX] at NX;rw[hZ] at NZ;rw[hV] at NV;rw[hW] at NW;have HX:=Hid.mk hX;have HZ:=Hid.mk hZ;have HV:=Hid.mk hV;have HW:=Hid.mk hW;clear hX hZ hV hW hx hz hv hw;go_enter func125,ntmps125
 go_wp2_with (first|(refine Ae rfl (TY rfl) ?_)|(refine AZ (n:=121665) (by rfl) (by rfl) (L6 wd _ _ _ _) (by rfl) ?_;intro s0 gm o0)|(refine L9 rfl _ rfl wd.heap.size x z v w rfl ((o0.block _ (by omega)).trans ((Below.heap_alloc _ _ _ (by simp<;>omega)).trans (A6 wd _ _ _))) ?_))
 have gp:=(o0.block wd.heap.size (by omega)).trans ((Below.heap_alloc _ _ _ (by simp<;>omega)).trans (A6 wd _ _ _));have gu:=(o0.block (wd.heap.size+1) (by omega)).trans ((Below.heap_alloc _ _ _ (by simp<;>omega)).trans (AB wd _ _ _));have gz:=(o0.block (wd.heap.size+1+1) (by omega)).trans ((Below.heap_alloc _ _ _ (by simp<;>omega)).trans (AK wd _ _ _))
 have hB:Below wd.heap.size wd s0:=by
  refine Below.trans ?_ (Only.below (b:=wd.heap.size+1+1+1) (B:=wd.heap.size) o0 (by omega))
  repeat first | exact Below.refl _ _ | refine Below.alloc ?_ (by simp<;>omega) _
 clear o0;refine(LA x z v w b _).mono ?_;rintro e v0 ⟨rfl,hb0⟩;rw[HX.out,HZ.out,HV.out,HW.out];replace gp:=Aj hb0 gp (Aa gp);replace gu:=Aj hb0 gu (Aa gu);replace gz:=Aj hb0 gz (Aa gz);replace gm:=Aj hb0 gm (Aa gm);replace hB:=Below.trans hB (hb0.mono hB.size);clear hb0
 go_wp2_with (refine GJ (g:=wd.heap.size) (x:=X) (z:=Z) (v:=V) (w:=W) (by rfl) (by rfl) gp (AP _ _ _ _) ?_;intro p0 gq o0;refine Hid.out ?_)
 replace gu:=(o0.block _ (by omega)).trans gu;replace gz:=(o0.block _ (by omega)).trans gz;replace gm:=(o0.block _ (by omega)).trans gm;replace hB:=Below.trans hB (Only.below (b:=wd.heap.size) (B:=wd.heap.size) o0 (Acg _));clear gp o0;have gp:=gq;clear gq;refine Hid.mk ?_
 go_wp2_with (first|(refine C7 rfl _ rfl wd.heap.size 0 X rfl (Ct gp (fun j hj=>by rw[Acl];exact Mn X Z V W j hj)) ?_)|(refine C7 rfl _ rfl wd.heap.size 32 Z rfl (Ct gp (Ks X Z V W)) ?_))
 refine(Hk X Z _ NX NZ).mono ?_;rintro e v1 ⟨rfl,hb1⟩;replace gp:=Aj hb1 gp (Aa gp);replace gu:=Aj hb1 gu (Aa gu);replace gz:=Aj hb1 gz (Aa gz);replace gm:=Aj hb1 gm (Aa gm);replace hB:=Below.trans hB (hb1.mono hB.size);clear hb1;have Na1:N256 ((X+Z)%P255):=N256.mod _;generalize ha1:(X+Z)%P255=a1 at *
 go_wp2_with (refine AZ (by rfl) (by rfl) (heap_alloc_new v1 _) (by rfl) ?_;intro s1 ga o1;refine Hid.out ?_)
 replace gp:=(o1.block _ (Ack (Aa gp))).trans ((Below.heap_alloc v1 _ _ (Aa gp)).trans gp);replace gu:=(o1.block _ (Ack (Aa gu))).trans ((Below.heap_alloc v1 _ _ (Aa gu)).trans gu);replace gz:=(o1.block _ (Ack (Aa gz))).trans ((Below.heap_alloc v1 _ _ (Aa gz)).trans gz);replace gm:=(o1.block _ (Ack (Aa gm))).trans ((Below.heap_alloc v1 _ _ (Aa gm)).trans gm);replace hB:=Below.trans (hB.alloc hB.size _) (Only.below (b:=v1.heap.size) (B:=wd.heap.size) o1 hB.size);clear o1;generalize v1.heap.size=b8 at *;refine Hid.mk ?_
 go_wp2_with (first|(refine C7 rfl _ rfl wd.heap.size 0 X rfl (Ct gp (fun j hj=>by rw[Acl];exact Mn X Z V W j hj)) ?_)|(refine C7 rfl _ rfl wd.heap.size 32 Z rfl (Ct gp (Ks X Z V W)) ?_))
 refine(IO X Z _ NX NZ).mono ?_;rintro e v2 ⟨rfl,hb2⟩;replace gp:=Aj hb2 gp (Aa gp);replace gu:=Aj hb2 gu (Aa gu);replace gz:=Aj hb2 gz (Aa gz);replace gm:=Aj hb2 gm (Aa gm);replace ga:=Aj hb2 ga (Aa ga);replace hB:=Below.trans hB (hb2.mono hB.size);clear hb2;have Nb1:N256 ((X-Z)%P255):=N256.mod _;generalize hb1:(X-Z)%P255=b1 at *
 go_wp2_with (refine AZ (by rfl) (by rfl) (heap_alloc_new v2 _) (by rfl) ?_;intro s2 gb o2;refine Hid.out ?_)
 replace gp:=(o2.block _ (Ack (Aa gp))).trans ((Below.heap_alloc v2 _ _ (Aa gp)).trans gp);replace gu:=(o2.block _ (Ack (Aa gu))).trans ((Below.heap_alloc v2 _ _ (Aa gu)).trans gu);replace gz:=(o2.block _ (Ack (Aa gz))).trans ((Below.heap_alloc v2 _ _ (Aa gz)).trans gz);replace gm:=(o2.block _ (Ack (Aa gm))).trans ((Below.heap_alloc v2 _ _ (Aa gm)).trans gm);replace ga:=(o2.block _ (Ack (Aa ga))).trans ((Below.heap_alloc v2 _ _ (Aa ga)).trans ga);replace hB:=Below.trans (hB.alloc hB.size _) (Only.below (b:=v2.heap.size) (B:=wd.heap.size) o2 hB.size);clear o2;generalize v2.heap.size=b9 at *;refine Hid.mk ?_
 go_wp2_with (first|(refine C7 rfl _ rfl wd.heap.size 64 V rfl (Ct gp (Mo X Z V W)) ?_)|(refine C7 rfl _ rfl wd.heap.size 96 W rfl (Ct gp (Mp X Z V W)) ?_))
 refine(Hk V W _ NV NW).mono ?_;rintro e v3 ⟨rfl,hb3⟩;replace gp:=Aj hb3 gp (Aa gp);replace gu:=Aj hb3 gu (Aa gu);replace gz:=Aj hb3 gz (Aa gz);replace gm:=Aj hb3 gm (Aa gm);replace ga:=Aj hb3 ga (Aa ga);replace gb:=Aj hb3 gb (Aa gb);replace hB:=Below.trans hB (hb3.mono hB.size);clear hb3;have Nc1:N256 ((V+W)%P255):=N256.mod _;generalize hc1:(V+W)%P255=c1 at *
 go_wp2_with (refine AZ (by rfl) (by rfl) (heap_alloc_new v3 _) (by rfl) ?_;intro s3 gc o3;refine Hid.out ?_)
 replace gp:=(o3.block _ (Ack (Aa gp))).trans ((Below.heap_alloc v3 _ _ (Aa gp)).trans gp);replace gu:=(o3.block _ (Ack (Aa gu))).trans ((Below.heap_alloc v3 _ _ (Aa gu)).trans gu);replace gz:=(o3.block _ (Ack (Aa gz))).trans ((Below.heap_alloc v3 _ _ (Aa gz)).trans gz);replace gm:=(o3.block _ (Ack (Aa gm))).trans ((Below.heap_alloc v3 _ _ (Aa gm)).trans gm);replace ga:=(o3.block _ (Ack (Aa ga))).trans ((Below.heap_alloc v3 _ _ (Aa ga)).trans ga);replace gb:=(o3.block _ (Ack (Aa gb))).trans ((Below.heap_alloc v3 _ _ (Aa gb)).trans gb);replace hB:=Below.trans (hB.alloc hB.size _) (Only.below (b:=v3.heap.size) (B:=wd.heap.size) o3 hB.size);clear o3;generalize v3.heap.size=b10 at *;refine Hid.mk ?_
 go_wp2_with (first|(refine C7 rfl _ rfl wd.heap.size 64 V rfl (Ct gp (Mo X Z V W)) ?_)|(refine C7 rfl _ rfl wd.heap.size 96 W rfl (Ct gp (Mp X Z V W)) ?_))
 refine(IO V W _ NV NW).mono ?_;rintro e v4 ⟨rfl,hb4⟩;replace gp:=Aj hb4 gp (Aa gp);replace gu:=Aj hb4 gu (Aa gu);replace gz:=Aj hb4 gz (Aa gz);replace gm:=Aj hb4 gm (Aa gm);replace ga:=Aj hb4 ga (Aa ga);replace gb:=Aj hb4 gb (Aa gb);replace gc:=Aj hb4 gc (Aa gc);replace hB:=Below.trans hB (hb4.mono hB.size);clear hb4;have Nd1:N256 ((V-W)%P255):=N256.mod _;generalize hd1:(V-W)%P255=d1 at *
 go_wp2_with (refine AZ (by rfl) (by rfl) (heap_alloc_new v4 _) (by rfl) ?_;intro s4 gd o4;refine Hid.out ?_)
 replace gp:=(o4.block _ (Ack (Aa gp))).trans ((Below.heap_alloc v4 _ _ (Aa gp)).trans gp);replace gu:=(o4.block _ (Ack (Aa gu))).trans ((Below.heap_alloc v4 _ _ (Aa gu)).trans gu);replace gz:=(o4.block _ (Ack (Aa gz))).trans ((Below.heap_alloc v4 _ _ (Aa gz)).trans gz);replace gm:=(o4.block _ (Ack (Aa gm))).trans ((Below.heap_alloc v4 _ _ (Aa gm)).trans gm);replace ga:=(o4.block _ (Ack (Aa ga))).trans ((Below.heap_alloc v4 _ _ (Aa ga)).trans ga);replace gb:=(o4.block _ (Ack (Aa gb))).trans ((Below.heap_alloc v4 _ _ (Aa gb)).trans gb);replace gc:=(o4.block _ (Ack (Aa gc))).trans ((Below.heap_alloc v4 _ _ (Aa gc)).trans gc);replace hB:=Below.trans (hB.alloc hB.size _) (Only.below (b:=v4.heap.size) (B:=wd.heap.size) o4 hB.size);clear o4;generalize v4.heap.size=b11 at *;refine Hid.mk ?_
 go_wp2_with (first|(refine A7 rfl _ rfl _ _ rfl ga (Ah _) ?_))
 refine(FY a1 _ Na1).mono ?_;rintro e v5 ⟨rfl,hb5⟩;replace gp:=Aj hb5 gp (Aa gp);replace gu:=Aj hb5 gu (Aa gu);replace gz:=Aj hb5 gz (Aa gz);replace gm:=Aj hb5 gm (Aa gm);replace ga:=Aj hb5 ga (Aa ga);replace gb:=Aj hb5 gb (Aa gb);replace gc:=Aj hb5 gc (Aa gc);replace gd:=Aj hb5 gd (Aa gd);replace hB:=Below.trans hB (hb5.mono hB.size);clear hb5;have Naa:N256 (a1*a1%P255):=N256.mod _;generalize haa:a1*a1%P255=aa at *
 go_wp2_with (refine AZ (by rfl) (by rfl) (heap_alloc_new v5 _) (by rfl) ?_;intro s5 gaa o5;refine Hid.out ?_)
 replace gp:=(o5.block _ (Ack (Aa gp))).trans ((Below.heap_alloc v5 _ _ (Aa gp)).trans gp);replace gu:=(o5.block _ (Ack (Aa gu))).trans ((Below.heap_alloc v5 _ _ (Aa gu)).trans gu);replace gz:=(o5.block _ (Ack (Aa gz))).trans ((Below.heap_alloc v5 _ _ (Aa gz)).trans gz);replace gm:=(o5.block _ (Ack (Aa gm))).trans ((Below.heap_alloc v5 _ _ (Aa gm)).trans gm);replace ga:=(o5.block _ (Ack (Aa ga))).trans ((Below.heap_alloc v5 _ _ (Aa ga)).trans ga);replace gb:=(o5.block _ (Ack (Aa gb))).trans ((Below.heap_alloc v5 _ _ (Aa gb)).trans gb);replace gc:=(o5.block _ (Ack (Aa gc))).trans ((Below.heap_alloc v5 _ _ (Aa gc)).trans gc);replace gd:=(o5.block _ (Ack (Aa gd))).trans ((Below.heap_alloc v5 _ _ (Aa gd)).trans gd);replace hB:=Below.trans (hB.alloc hB.size _) (Only.below (b:=v5.heap.size) (B:=wd.heap.size) o5 hB.size);clear o5;generalize v5.heap.size=b12 at *;refine Hid.mk ?_
 go_wp2_with (first|(refine A7 rfl _ rfl _ _ rfl gb (Ah _) ?_))
 refine(FY b1 _ Nb1).mono ?_;rintro e v6 ⟨rfl,hb6⟩;replace gp:=Aj hb6 gp (Aa gp);replace gu:=Aj hb6 gu (Aa gu);replace gz:=Aj hb6 gz (Aa gz);replace gm:=Aj hb6 gm (Aa gm);replace ga:=Aj hb6 ga (Aa ga);replace gb:=Aj hb6 gb (Aa gb);replace gc:=Aj hb6 gc (Aa gc);replace gd:=Aj hb6 gd (Aa gd);replace gaa:=Aj hb6 gaa (Aa gaa);replace hB:=Below.trans hB (hb6.mono hB.size);clear hb6;have Nbb:N256 (b1*b1%P255):=N256.mod _;generalize hbb:b1*b1%P255=bb at *
 go_wp2_with (refine AZ (by rfl) (by rfl) (heap_alloc_new v6 _) (by rfl) ?_;intro s6 gbb o6;refine Hid.out ?_)
 replace gp:=(o6.block _ (Ack (Aa gp))).trans ((Below.heap_alloc v6 _ _ (Aa gp)).trans gp);replace gu:=(o6.block _ (Ack (Aa gu))).trans ((Below.heap_alloc v6 _ _ (Aa gu)).trans gu);replace gz:=(o6.block _ (Ack (Aa gz))).trans ((Below.heap_alloc v6 _ _ (Aa gz)).trans gz);replace gm:=(o6.block _ (Ack (Aa gm))).trans ((Below.heap_alloc v6 _ _ (Aa gm)).trans gm);replace ga:=(o6.block _ (Ack (Aa ga))).trans ((Below.heap_alloc v6 _ _ (Aa ga)).trans ga);replace gb:=(o6.block _ (Ack (Aa gb))).trans ((Below.heap_alloc v6 _ _ (Aa gb)).trans gb);replace gc:=(o6.block _ (Ack (Aa gc))).trans ((Below.heap_alloc v6 _ _ (Aa gc)).trans gc);replace gd:=(o6.block _ (Ack (Aa gd))).trans ((Below.heap_alloc v6 _ _ (Aa gd)).trans gd);replace gaa:=(o6.block _ (Ack (Aa gaa))).trans ((Below.heap_alloc v6 _ _ (Aa gaa)).trans gaa);replace hB:=Below.trans (hB.alloc hB.size _) (Only.below (b:=v6.heap.size) (B:=wd.heap.size) o6 hB.size);clear o6;generalize v6.heap.size=b13 at *;refine Hid.mk ?_
 go_wp2_with (first|(refine A7 rfl _ rfl _ _ rfl gaa (Ah _) ?_)|(refine A7 rfl _ rfl _ _ rfl gbb (Ah _) ?_))
 refine(IO aa bb _ Naa Nbb).mono ?_;rintro e v7 ⟨rfl,hb7⟩;replace gp:=Aj hb7 gp (Aa gp);replace gu:=Aj hb7 gu (Aa gu);replace gz:=Aj hb7 gz (Aa gz);replace gm:=Aj hb7 gm (Aa gm);replace ga:=Aj hb7 ga (Aa ga);replace gb:=Aj hb7 gb (Aa gb);replace gc:=Aj hb7 gc (Aa gc);replace gd:=Aj hb7 gd (Aa gd);replace gaa:=Aj hb7 gaa (Aa gaa);replace gbb:=Aj hb7 gbb (Aa gbb);replace hB:=Below.trans hB (hb7.mono hB.size);clear hb7;have Nee:N256 ((aa-bb)%P255):=N256.mod _;generalize hee:(aa-bb)%P255=ee at *
 go_wp2_with (refine AZ (by rfl) (by rfl) (heap_alloc_new v7 _) (by rfl) ?_;intro s7 gee o7;refine Hid.out ?_)
 replace gp:=(o7.block _ (Ack (Aa gp))).trans ((Below.heap_alloc v7 _ _ (Aa gp)).trans gp);replace gu:=(o7.block _ (Ack (Aa gu))).trans ((Below.heap_alloc v7 _ _ (Aa gu)).trans gu);replace gz:=(o7.block _ (Ack (Aa gz))).trans ((Below.heap_alloc v7 _ _ (Aa gz)).trans gz);replace gm:=(o7.block _ (Ack (Aa gm))).trans ((Below.heap_alloc v7 _ _ (Aa gm)).trans gm);replace ga:=(o7.block _ (Ack (Aa ga))).trans ((Below.heap_alloc v7 _ _ (Aa ga)).trans ga);replace gb:=(o7.block _ (Ack (Aa gb))).trans ((Below.heap_alloc v7 _ _ (Aa gb)).trans gb);replace gc:=(o7.block _ (Ack (Aa gc))).trans ((Below.heap_alloc v7 _ _ (Aa gc)).trans gc);replace gd:=(o7.block _ (Ack (Aa gd))).trans ((Below.heap_alloc v7 _ _ (Aa gd)).trans gd);replace gaa:=(o7.block _ (Ack (Aa gaa))).trans ((Below.heap_alloc v7 _ _ (Aa gaa)).trans gaa);replace gbb:=(o7.block _ (Ack (Aa gbb))).trans ((Below.heap_alloc v7 _ _ (Aa gbb)).trans gbb);replace hB:=Below.trans (hB.alloc hB.size _) (Only.below (b:=v7.heap.size) (B:=wd.heap.size) o7 hB.size);clear o7;generalize v7.heap.size=b14 at *;refine Hid.mk ?_
 go_wp2_with (first|(refine A7 rfl _ rfl _ _ rfl gd (Ah _) ?_)|(refine A7 rfl _ rfl _ _ rfl ga (Ah _) ?_))
 refine(Cw d1 a1 _ Nd1 Na1).mono ?_;rintro e v8 ⟨rfl,hb8⟩;replace gp:=Aj hb8 gp (Aa gp);replace gu:=Aj hb8 gu (Aa gu);replace gz:=Aj hb8 gz (Aa gz);replace gm:=Aj hb8 gm (Aa gm);replace ga:=Aj hb8 ga (Aa ga);replace gb:=Aj hb8 gb (Aa gb);replace gc:=Aj hb8 gc (Aa gc);replace gd:=Aj hb8 gd (Aa gd);replace gaa:=Aj hb8 gaa (Aa gaa);replace gbb:=Aj hb8 gbb (Aa gbb);replace gee:=Aj hb8 gee (Aa gee);replace hB:=Below.trans hB (hb8.mono hB.size);clear hb8;have Nda:N256 (d1*a1%P255):=N256.mod _;generalize hda:d1*a1%P255=da at *
 go_wp2_with (refine AZ (by rfl) (by rfl) (heap_alloc_new v8 _) (by rfl) ?_;intro s8 gda o8;refine Hid.out ?_)
 replace gp:=(o8.block _ (Ack (Aa gp))).trans ((Below.heap_alloc v8 _ _ (Aa gp)).trans gp);replace gu:=(o8.block _ (Ack (Aa gu))).trans ((Below.heap_alloc v8 _ _ (Aa gu)).trans gu);replace gz:=(o8.block _ (Ack (Aa gz))).trans ((Below.heap_alloc v8 _ _ (Aa gz)).trans gz);replace gm:=(o8.block _ (Ack (Aa gm))).trans ((Below.heap_alloc v8 _ _ (Aa gm)).trans gm);replace ga:=(o8.block _ (Ack (Aa ga))).trans ((Below.heap_alloc v8 _ _ (Aa ga)).trans ga);replace gb:=(o8.block _ (Ack (Aa gb))).trans ((Below.heap_alloc v8 _ _ (Aa gb)).trans gb);replace gc:=(o8.block _ (Ack (Aa gc))).trans ((Below.heap_alloc v8 _ _ (Aa gc)).trans gc);replace gd:=(o8.block _ (Ack (Aa gd))).trans ((Below.heap_alloc v8 _ _ (Aa gd)).trans gd);replace gaa:=(o8.block _ (Ack (Aa gaa))).trans ((Below.heap_alloc v8 _ _ (Aa gaa)).trans gaa);replace gbb:=(o8.block _ (Ack (Aa gbb))).trans ((Below.heap_alloc v8 _ _ (Aa gbb)).trans gbb);replace gee:=(o8.block _ (Ack (Aa gee))).trans ((Below.heap_alloc v8 _ _ (Aa gee)).trans gee);replace hB:=Below.trans (hB.alloc hB.size _) (Only.below (b:=v8.heap.size) (B:=wd.heap.size) o8 hB.size);clear o8;generalize v8.heap.size=b15 at *;refine Hid.mk ?_
 go_wp2_with (first|(refine A7 rfl _ rfl _ _ rfl gc (Ah _) ?_)|(refine A7 rfl _ rfl _ _ rfl gb (Ah _) ?_))
 refine(Cw c1 b1 _ Nc1 Nb1).mono ?_;rintro e v9 ⟨rfl,hb9⟩;replace gp:=Aj hb9 gp (Aa gp);replace gu:=Aj hb9 gu (Aa gu);replace gz:=Aj hb9 gz (Aa gz);replace gm:=Aj hb9 gm (Aa gm);replace ga:=Aj hb9 ga (Aa ga);replace gb:=Aj hb9 gb (Aa gb);replace gc:=Aj hb9 gc (Aa gc);replace gd:=Aj hb9 gd (Aa gd);replace gaa:=Aj hb9 gaa (Aa gaa);replace gbb:=Aj hb9 gbb (Aa gbb);replace gee:=Aj hb9 gee (Aa gee);replace gda:=Aj hb9 gda (Aa gda);replace hB:=Below.trans hB (hb9.mono hB.size);clear hb9;have Ncb:N256 (c1*b1%P255):=N256.mod _;generalize hcb:c1*b1%P255=cb at *
 go_wp2_with (refine AZ (by rfl) (by rfl) (heap_alloc_new v9 _) (by rfl) ?_;intro s9 gcb o9;refine Hid.out ?_)
 replace gp:=(o9.block _ (Ack (Aa gp))).trans ((Below.heap_alloc v9 _ _ (Aa gp)).trans gp);replace gu:=(o9.block _ (Ack (Aa gu))).trans ((Below.heap_alloc v9 _ _ (Aa gu)).trans gu);replace gz:=(o9.block _ (Ack (Aa gz))).trans ((Below.heap_alloc v9 _ _ (Aa gz)).trans gz);replace gm:=(o9.block _ (Ack (Aa gm))).trans ((Below.heap_alloc v9 _ _ (Aa gm)).trans gm);replace ga:=(o9.block _ (Ack (Aa ga))).trans ((Below.heap_alloc v9 _ _ (Aa ga)).trans ga);replace gb:=(o9.block _ (Ack (Aa gb))).trans ((Below.heap_alloc v9 _ _ (Aa gb)).trans gb);replace gc:=(o9.block _ (Ack (Aa gc))).trans ((Below.heap_alloc v9 _ _ (Aa gc)).trans gc);replace gd:=(o9.block _ (Ack (Aa gd))).trans ((Below.heap_alloc v9 _ _ (Aa gd)).trans gd);replace gaa:=(o9.block _ (Ack (Aa gaa))).trans ((Below.heap_alloc v9 _ _ (Aa gaa)).trans gaa);replace gbb:=(o9.block _ (Ack (Aa gbb))).trans ((Below.heap_alloc v9 _ _ (Aa gbb)).trans gbb);replace gee:=(o9.block _ (Ack (Aa gee))).trans ((Below.heap_alloc v9 _ _ (Aa gee)).trans gee);replace gda:=(o9.block _ (Ack (Aa gda))).trans ((Below.heap_alloc v9 _ _ (Aa gda)).trans gda);replace hB:=Below.trans (hB.alloc hB.size _) (Only.below (b:=v9.heap.size) (B:=wd.heap.size) o9 hB.size);clear o9;generalize v9.heap.size=b16 at *;refine Hid.mk ?_;have Ha1:=Hid.mk ha1;clear ha1;have Hb1:=Hid.mk hb1;clear hb1;have Hc1:=Hid.mk hc1;clear hc1;have Hd1:=Hid.mk hd1;clear hd1;have Haa:=Hid.mk haa;clear haa;have Hbb:=Hid.mk hbb;clear hbb;have Hee:=Hid.mk hee;clear hee;have Hda:=Hid.mk hda;clear hda;have Hcb:=Hid.mk hcb;clear hcb;obtain⟨nx,hnx⟩:∃y,aa*bb%P255=y:=⟨_,rfl⟩;have Nnx:N256 nx:=hnx▸N256.mod _;have Hnx:=Hid.mk hnx;clear hnx;obtain⟨t1,ht1⟩:∃y,121665*ee%P255=y:=⟨_,rfl⟩;have Nt1:N256 t1:=ht1▸N256.mod _;have Ht1:=Hid.mk ht1;clear ht1;obtain⟨t2,ht2⟩:∃y,(aa+t1)%P255=y:=⟨_,rfl⟩;have Nt2:N256 t2:=ht2▸N256.mod _;have Ht2:=Hid.mk ht2;clear ht2;obtain⟨nz,hnz⟩:∃y,ee*t2%P255=y:=⟨_,rfl⟩;have Nnz:N256 nz:=hnz▸N256.mod _;have Hnz:=Hid.mk hnz;clear hnz;obtain⟨t3,ht3⟩:∃y,(da+cb)%P255=y:=⟨_,rfl⟩;have Nt3:N256 t3:=ht3▸N256.mod _;have Ht3:=Hid.mk ht3;clear ht3;obtain⟨nv,hnv⟩:∃y,t3*t3%P255=y:=⟨_,rfl⟩;have Nnv:N256 nv:=hnv▸N256.mod _;have Hnv:=Hid.mk hnv;clear hnv;obtain⟨t4,ht4⟩:∃y,(da-cb)%P255=y:=⟨_,rfl⟩;have Nt4:N256 t4:=ht4▸N256.mod _;have Ht4:=Hid.mk ht4;clear ht4;obtain⟨t5,ht5⟩:∃y,t4*t4%P255=y:=⟨_,rfl⟩;have Nt5:N256 t5:=ht5▸N256.mod _;have Ht5:=Hid.mk ht5;clear ht5;obtain⟨nw,hnw⟩:∃y,u*t5%P255=y:=⟨_,rfl⟩;have Nnw:N256 nw:=hnw▸N256.mod _;have Hnw:=Hid.mk hnw;clear hnw;go_wp2_with fail;refine JG 22 _ (fun v=>v.heap[b12]?=some (.cells (BA aa) 22 (0,0))∧v.heap[b13]?=some (.cells (BA bb) 22 (0,0))∧v.heap[b14]?=some (.cells (BA ee) 22 (0,0))∧v.heap[b15]?=some (.cells (BA da) 22 (0,0))∧v.heap[b16]?=some (.cells (BA cb) 22 (0,0))∧v.heap[(wd.heap.size+1)]?=some (.cells (BA u) 22 (0,0))∧v.heap[(wd.heap.size+1+1+1)]?=some (.cells (BA 121665) 22 (0,0))∧v.heap[wd.heap.size+1+1]?=some (.cells (Q4 0 0 0 0) 156 (0,0))∧Below wd.heap.size wd v) (fun v v'=>Below v.heap.size v v') (kn (wd.heap.size+1+1+1+1) [.val (.agg (BA aa)),.val (.agg (BA bb)),.val (.agg (BA nx)),.val (.agg (BA ee)),.val (.agg (BA aa)),.val (.agg (BA 121665)),.val (.agg (BA ee)),.val (.agg (BA t1)),.val (.agg (BA t2)),.val (.agg (BA nz)),.val (.agg (BA da)),.val (.agg (BA cb)),.val (.agg (BA t3)),.val (.agg (BA nv)),.val (.agg (BA u)),.val (.agg (BA da)),.val (.agg (BA cb)),.val (.agg (BA t4)),.val (.agg (BA t5)),.val (.agg (BA nw)),.val (.agg (Q4 nx nz nv nw)),.fresh 156 128]) [55,56,57,58,59,60,61,62,63,64,65,66,67,68,69,70,71,72,73,74,75,17]
  [(12,.pointer (some ⟨b12,0,none⟩)),(13,.pointer (some ⟨b13,0,none⟩)),(14,.pointer (some ⟨b14,0,none⟩)),(15,.pointer (some ⟨b15,0,none⟩)),(16,.pointer (some ⟨b16,0,none⟩)),(4,.pointer (some ⟨(wd.heap.size+1),0,none⟩)),(7,.pointer (some ⟨(wd.heap.size+1+1+1),0,none⟩))] [[],[],[0,1],[],[],[],[],[5,6],[4,7],[3,8],[],[],[10,11],[12],[],[],[],[15,16],[17],[14,18],[2,9,13,19],[]] rfl (by kernel_rfl) rfl ⟨rfl,rfl,rfl,rfl,rfl,rfl,rfl,trivial⟩ ⟨gaa,gbb,gee,gda,gcb,gu,gm,gz,Below.drew hB⟩ (fun v v' h hb=>⟨Aj hb h.1 (Aa h.1),Aj hb h.2.1 (Aa h.2.1),Aj hb h.2.2.1 (Aa h.2.2.1),Aj hb h.2.2.2.1 (Aa h.2.2.2.1),Aj hb h.2.2.2.2.1 (Aa h.2.2.2.2.1),Aj hb h.2.2.2.2.2.1 (Aa h.2.2.2.2.2.1),Aj hb h.2.2.2.2.2.2.1 (Aa h.2.2.2.2.2.2.1),Aj hb h.2.2.2.2.2.2.2.1 (Aa h.2.2.2.2.2.2.2.1),Below.trans h.2.2.2.2.2.2.2.2 (hb.mono h.2.2.2.2.2.2.2.2.size)⟩) (WX (wd.heap.size+1+1+1+1) _)
  ⟨
   (fun Q a1 w hS fr kn=>⟨trivial,fun K hK=>AX (Bj rfl _ _ fr.1 (Ah _) hS.1) (hK _ _ rfl (Below.refl _ _))⟩),
   (fun Q a1 w hS fr kn=>⟨trivial,fun K hK=>AX (Bj rfl _ _ fr.2.1 (Ah _) hS.2.1) (hK _ _ rfl (Below.refl _ _))⟩),
   (fun Q a1 w hS fr kn=>⟨trivial,fun K hK=>JZ Fh _ _ _ rfl _ _ _ kn.1 kn.2.1 (Cw aa bb w Naa Nbb) (fun w' hb=>hK _ _ (by rw[Hnx.out];rfl) hb)⟩),
   (fun Q a1 w hS fr kn=>⟨trivial,fun K hK=>AX (Bj rfl _ _ fr.2.2.1 (Ah _) hS.2.2.1) (hK _ _ rfl (Below.refl _ _))⟩),
   (fun Q a1 w hS fr kn=>⟨trivial,fun K hK=>AX (Bj rfl _ _ fr.1 (Ah _) hS.1) (hK _ _ rfl (Below.refl _ _))⟩),
   (fun Q a1 w hS fr kn=>⟨trivial,fun K hK=>AX (Bj rfl _ _ fr.2.2.2.2.2.2.1 (Ah _) hS.2.2.2.2.2.2.1) (hK _ _ rfl (Below.refl _ _))⟩),
   (fun Q a1 w hS fr kn=>⟨trivial,fun K hK=>AX (Bj rfl _ _ fr.2.2.1 (Ah _) hS.2.2.1) (hK _ _ rfl (Below.refl _ _))⟩),
   (fun Q a1 w hS fr kn=>⟨trivial,fun K hK=>JZ Fh _ _ _ rfl _ _ _ kn.1 kn.2.1 (Cw 121665 ee w Nm Nee) (fun w' hb=>hK _ _ (by rw[Ht1.out];rfl) hb)⟩),
   (fun Q a1 w hS fr kn=>⟨trivial,fun K hK=>JZ LE _ _ _ rfl _ _ _ kn.1 kn.2.1 (Hk aa t1 w Naa Nt1) (fun w' hb=>hK _ _ (by rw[Ht2.out];rfl) hb)⟩),
   (fun Q a1 w hS fr kn=>⟨trivial,fun K hK=>JZ Fh _ _ _ rfl _ _ _ kn.1 kn.2.1 (Cw ee t2 w Nee Nt2) (fun w' hb=>hK _ _ (by rw[Hnz.out];rfl) hb)⟩),
   (fun Q a1 w hS fr kn=>⟨trivial,fun K hK=>AX (Bj rfl _ _ fr.2.2.2.1 (Ah _) hS.2.2.2.1) (hK _ _ rfl (Below.refl _ _))⟩),
   (fun Q a1 w hS fr kn=>⟨trivial,fun K hK=>AX (Bj rfl _ _ fr.2.2.2.2.1 (Ah _) hS.2.2.2.2.1) (hK _ _ rfl (Below.refl _ _))⟩),
   (fun Q a1 w hS fr kn=>⟨trivial,fun K hK=>JZ LE _ _ _ rfl _ _ _ kn.1 kn.2.1 (Hk da cb w Nda Ncb) (fun w' hb=>hK _ _ (by rw[Ht3.out];rfl) hb)⟩),
   (fun Q a1 w hS fr kn=>⟨trivial,fun K hK=>WR Kd _ _ rfl _ _ kn.1 (FY t3 w Nt3) (fun w' hb=>hK _ _ (by rw[Hnv.out];rfl) hb)⟩),
   (fun Q a1 w hS fr kn=>⟨trivial,fun K hK=>AX (Bj rfl _ _ fr.2.2.2.2.2.1 (Ah _) hS.2.2.2.2.2.1) (hK _ _ rfl (Below.refl _ _))⟩),
   (fun Q a1 w hS fr kn=>⟨trivial,fun K hK=>AX (Bj rfl _ _ fr.2.2.2.1 (Ah _) hS.2.2.2.1) (hK _ _ rfl (Below.refl _ _))⟩),
   (fun Q a1 w hS fr kn=>⟨trivial,fun K hK=>AX (Bj rfl _ _ fr.2.2.2.2.1 (Ah _) hS.2.2.2.2.1) (hK _ _ rfl (Below.refl _ _))⟩),
   (fun Q a1 w hS fr kn=>⟨trivial,fun K hK=>JZ TX _ _ _ rfl _ _ _ kn.1 kn.2.1 (IO da cb w Nda Ncb) (fun w' hb=>hK _ _ (by rw[Ht4.out];rfl) hb)⟩),
   (fun Q a1 w hS fr kn=>⟨trivial,fun K hK=>WR Kd _ _ rfl _ _ kn.1 (FY t4 w Nt4) (fun w' hb=>hK _ _ (by rw[Ht5.out];rfl) hb)⟩),
   (fun Q a1 w hS fr kn=>⟨trivial,fun K hK=>JZ Fh _ _ _ rfl _ _ _ kn.1 kn.2.1 (Cw u t5 w NU Nt5) (fun w' hb=>hK _ _ (by rw[Hnw.out];rfl) hb)⟩),
   (fun Q a1 w hS fr kn=>⟨trivial,fun K hK=>AX (Kc rfl _ _ _ _ kn.1 kn.2.1 kn.2.2.1 kn.2.2.2.1) (hK _ _ rfl (Below.refl _ _))⟩),
   (fun Q a1 w hS fr kn=>⟨trivial,fun K hK=>QB rfl (fun w' b hb hle hnew=>hK _ _ ⟨b,rfl,Acp (Aa hS.2.2.2.2.2.2.1) hle,hnew⟩ hb)⟩),
   trivial⟩ ?_
 intro vs v9 hS9 hk9;have e75:vs 75=.agg (Q4 nx nz nv nw):=Aa2 (hk9 20 (by decide)) rfl;refine Exists.elim (WW (hk9 21 (by decide)) rfl) ?_;intro b17 h17;refine Exists.elim h17.2.2 ?_;intro cs17 h18;have e17:vs 17=.pointer (some ⟨b17,0,none⟩):=h17.1;have hle17:=h17.2.1;have g17:=h18.1;have s17:=h18.2;refine Q7 (.tmp 17) (.tmp 75) rfl b17 nx nz nv nw ((Kb (by decide) (show 17<79 from by decide)).trans e17) ((Kb (by decide) (show 75<79 from by decide)).trans e75) cs17 g17 s17 ?_;intro v10 g10 o10;simp only[Am,Act.put,Aci,Acj,Ach,e75,e17];clear hk9;have gz9:=hS9.2.2.2.2.2.2.2.1;have hB9:=hS9.2.2.2.2.2.2.2.2;have gz10:=(o10.block (wd.heap.size+1+1) (by omega)).trans gz9;have hB10:Below wd.heap.size wd v10:=Below.trans hB9 (Only.below (b:=b17) (B:=wd.heap.size) o10 (by omega));clear hS9 gz9 hB9 o10 e75 e17 h17 h18 g17 s17
 go_wp2_with (refine L9 rfl _ rfl b17 nx nz nv nw rfl g10 ?_)
 refine(LA nx nz nv nw b _).mono ?_;rintro e v11 ⟨rfl,hb11⟩;have gz11:=Aj hb11 gz10 (Aa gz10);have hB11:=Below.trans hB10 (hb11.mono hB10.size);clear hb11 gz10 hB10 g10
 go_wp2_with (refine GJ (g:=wd.heap.size+1+1) (by rfl) (by rfl) gz11 (AP 0 0 0 0) ?_;intro v12 g12 o12)
 exact bodyPost_ret (v:=.agg (Q4 (tb b nx nv) (tb b nz nw) (tb b nv nx) (tb b nw nz))) (results_cell_row rfl _ _ _ _ _ _ _ rfl g12 underlying156 rfl (by rw[AP];exact FX)) rfl
  ⟨⟨_,_,_,_,rfl,El Nnx Nnv,El Nnz Nnw,El Nnv Nnx,El Nnw Nnz,TZ b x z v w u X Z V W a1 b1 c1 d1 aa bb ee da cb nx t1 t2 nz t3 nv t4 t5 nw HX.out HZ.out HV.out HW.out Ha1.out Hb1.out Hc1.out Hd1.out Haa.out Hbb.out Hee.out Hda.out Hcb.out Hnx.out Ht1.out Ht2.out Hnz.out Ht3.out Hnv.out Ht4.out Ht5.out Hnw.out⟩,
   Below.trans hB11 (Only.below (b:=wd.heap.size+1+1) (B:=wd.heap.size) o12 (by omega))⟩
theorem QC(k:Int)(w:World)(hk:N256 k):Calls prog 123 #[.agg (BA k)] w fun e w'=>e=.returned (.agg (BA (Cx k)))∧Below w.heap.size w w':=by
 have HC:=Hid.mk (Pn k hk);clear hk;have h0:=Bq k 0;have h31:=Bq k 31;unfold BR at h0 h31;obtain⟨h00,h01⟩:=h0;obtain⟨h310,h311⟩:=h31;have c0:=BH k 0 (by omega);have c31:=BH k 31 (by omega);generalize byt k 0=x0 at *;generalize byt k 31=x31 at *;go_enter func123,ntmps123
 go_wp2_with (first|(refine A7 rfl _ rfl w.heap.size ((BA k).setIfInBounds 0 (.int .u8 (x0/8*8)) |>.setIfInBounds 31 (.int .u8 (x31%64+64))) rfl (heap_alloc2_old w _ _) (by simp[Ah]) ?_;rw[HC.out])|(refine AZ (n:=Cx k) (by rfl) (by rfl) (heap_alloc2_new w _ _) (by rfl) ?_;intro v3 g3 o3))
 exact bodyPost_ret (v:=.agg (BA (Cx k))) (results_cell_row rfl _ _ _ _ _ _ _ rfl g3 underlying22 rfl (by rw[Ah];exact Bo)) rfl
  ⟨rfl,Below.trans (((Below.refl _ w).alloc (Acg _) _).alloc (by simp) _) (Only.below (b:=w.heap.size+1) (B:=w.heap.size) o3 (by omega))⟩
theorem Of{a:Act}{o:Oper}{x:Operand}{w:World}(ho:o.op=.load 22 x)(b off:Nat)(n:Int)(hx:a.eval x=.pointer (some ⟨b,off,none⟩))(hc:w.rangeAt b off (BA n).toList):(execOp a.eval o).run prog w=.ok (.value (.agg (BA n))) w:=by
 unfold execOp;simp only[ho,hx,Instr.loadAt,Instr.sureAddr,Sem.run_bind,Sem.run_pure,Result.andThen_ok,run_loadVar_mid w b off 22 (BA n).toList _ hc underlying22 rfl (by rw[AcE,Ah];exact Bo),Array.toArray_toList]
theorem Ua(x v w:Int)(wd:World):(Instr.build 156 #[(0,.agg (BA x)),(2,.agg (BA v)),(3,.agg (BA w))]).run prog wd=.ok (.agg (Q4 x 0 v w)) wd:=by kernel_rfl
theorem QD{a:Act}{o:Oper}{wd:World}{A C D:Operand}(ho:o.op=.build 156 #[(0,A),(2,C),(3,D)])(x v w:Int)(hA:a.eval A=.agg (BA x))(hC:a.eval C=.agg (BA v))(hD:a.eval D=.agg (BA w)):(execOp a.eval o).run prog wd=.ok (.value (.agg (Q4 x 0 v w))) wd:=by
 have h:=Ua x v w wd;unfold execOp;simp only[ho,Acs,Acu,Acq,hA,hC,hD,Sem.run_bind,h,Result.andThen_ok,Sem.run_pure]
theorem LF(x:Int):QI 1 0 x 1=Qd.start (ofI x):=by unfold QI Qd.start;rw[RU,Pl]
theorem Ub{ops:Array Oper}{Q:Exit→Act→World→Prop}{S:World→Prop}{F:Nat→Nat}{T:Nat→Bool}{i:Nat}{l:List Nat}{o:Oper}{rest:List Oper}{a:Act}{wd:World}{X Y:Operand}{g:Nat}{x z v w:Int}{old:Array Value}(hF:F i=0)(hd:ops.toList.drop i=o::rest)(hw:Region.wanted o (yielded ops a.tmps)=true)(ho:o.op=.store 156 X Y)(hx:a.eval X=.pointer (some ⟨g,0,none⟩))(hy:a.eval Y=.agg (Q4 x z v w))(hg:wd.heap[g]?=some (.cells old 156 (0,0)))(hold:old.size=128)(hT:T i=false)(h:∀w2,w2.heap[g]?=some (.cells (Q4 x z v w) 156 (0,0))→Only g wd w2→DJ prog ops Q S F T l (a.put o.dst undef) w2):DJ prog ops Q S F T (i::l) a wd:=
 Az hF hd hw (fun K hK=>MX X Y ho g x z v w hx hy old hg hold (fun w2 h1 h2=>hK _ _ (fun e=>by rw[hT] at e;cases e) (h w2 h1 h2)))
theorem K4:N256 1:=by unfold N256 Bm;omega
theorem K5:N256 0:=by unfold N256 Bm;omega
def tmF(i:Nat):Nat:=[1,1,2,2,2,1,2,2,2,2,2,0,0].getD i 2
def tmT(i:Nat):Bool:=i != 12
def teF(i:Nat):Nat:=[2,1,2,1,0,0,0].getD i 2
def teT(i:Nat):Bool:=i != 6
theorem MY(k u:Int)(w:World)(hk:N256 k):Calls prog 84 #[.agg (BA k),.agg (BA u)] w fun e w'=>e=.returned (.agg (BA (tN k u)))∧Below w.heap.size w w':=by
 have hzero:=Ga;have HK:=Hid.mk hk;have HL:=Hid.mk (Wy u);have hx0:N256 (u%W255):=by unfold N256 Bm W255;omega
 have HX0:=Hid.mk hx0;have hb31:=Bq u 31;unfold BR at hb31;obtain⟨hb310,hb311⟩:=hb31;clear hk hx0;go_enter func84,ntmps84
 go_wp2_with (refine A7 rfl _ rfl _ _ rfl (A6 w _ _ _) (Ah _) ?_)
 refine(QC k _ HK.out).mono ?_;rintro e v1 ⟨rfl,hb1⟩;have gk:=Aj hb1 (A6 w _ _ _) (by simp<;>omega);have gu:=Aj hb1 (AB w _ _ _) (by simp<;>omega);have gz:=Aj hb1 (AK w _ _ _) (by simp<;>omega)
 have hB:Below w.heap.size w v1:=by
  refine Below.trans ?_ (hb1.mono (by simp<;>omega))
  repeat first | exact Below.refl _ _ | refine Below.alloc ?_ (by simp<;>omega) _
 clear hb1
 go_wp2_with (refine AZ (by rfl) (by rfl) gk (Ah _) ?_;intro v2 gk2 o2;refine Hid.out ?_)
 replace gu:=(o2.block _ (by omega)).trans gu;replace gz:=(o2.block _ (by omega)).trans gz;replace hB:=Below.trans hB (Only.below (b:=w.heap.size) (B:=w.heap.size) o2 (Acg _));clear gk o2;refine Hid.mk ?_;have cu:=(cell_of_row v2 (w.heap.size+1) 31 _ _ _ gu).trans (BH u 31 (by omega));have fu:=frozen_of_row v2 (w.heap.size+1) 31 _ _ gu;generalize byt u 31=x31 at *
 go_wp2_with (refine A7 rfl _ rfl (w.heap.size+1) _ rfl (heap_setCell_same _ _ _ _ _ _ gu) (by simp[Ah]) ?_;rw[HL.out])
 refine(L1 (u%W255) _ HX0.out).mono ?_;rintro e v3 ⟨rfl,hb3⟩;have gk3:=Aj hb3 ((heap_setCell_other _ _ _ _ (by simp)).trans gk2) (by have:=Aa gk2;simp;omega);have gz3:=Aj hb3 ((heap_setCell_other _ _ _ _ (by simp)).trans gz) (by have:=Aa gz;simp;omega);have hB3:Below w.heap.size w v3:=Below.trans (Below.setCell hB (by simp) _) (hb3.mono (by have:=hB.size;simp;omega));clear hb3 gk2 gz hB gu cu fu;have NX:=N256.mod (u%W255);obtain⟨x,hxe⟩:∃x,u%W255%P255=x:=⟨_,rfl⟩;rw[hxe] at NX ⊢;have HXE:=Hid.mk hxe;clear hxe
 go_wp2_with (refine AZ (by rfl) (by rfl) (heap_alloc_new v3 _) (by rfl) ?_;intro v4 gx o4;refine Hid.out ?_)
 have hs3:=Aa gz3;replace gk3:=(o4.block _ (Ack (Aa gk3))).trans ((Below.heap_alloc v3 _ _ (Aa gk3)).trans gk3);replace gz3:=(o4.block _ (Ack (Aa gz3))).trans ((Below.heap_alloc v3 _ _ (Aa gz3)).trans gz3);replace hB3:=Below.trans (hB3.alloc hB3.size _) (Only.below (b:=v3.heap.size) (B:=w.heap.size) o4 hB3.size);clear o4;generalize v3.heap.size=bx at *;refine Hid.mk ?_
 go_wp2_with (first|(refine Ae rfl (Iq 0 1 rfl 1 (Wx _)) ?_)|(refine A7 rfl _ rfl bx _ rfl gx (Ah _) ?_)|(refine Ae rfl (QD rfl 1 x 1 rfl rfl rfl) ?_)|(refine GJ (g:=v4.heap.size) (x:=1) (z:=0) (v:=x) (w:=1) (old:=Q4 0 0 0 0) (by rfl) (by rfl) (heap_alloc_new v4 _) (AP 0 0 0 0) ?_;intro v5 gp o5))
 have hs4:=Aa gx;replace gk3:=(o5.block _ (Ack (Aa gk3))).trans ((Below.heap_alloc v4 _ _ (Aa gk3)).trans gk3);replace gz3:=(o5.block _ (Ack (Aa gz3))).trans ((Below.heap_alloc v4 _ _ (Aa gz3)).trans gz3);replace gx:=(o5.block _ (Ack (Aa gx))).trans ((Below.heap_alloc v4 _ _ (Aa gx)).trans gx);replace hB3:=Below.trans (hB3.alloc hB3.size _) (Only.below (b:=v4.heap.size) (B:=w.heap.size) o5 hB3.size);clear o5;generalize v4.heap.size=bp at *;have NN:=LC k;obtain⟨N,hN⟩:∃N,Cx k=N:=⟨_,rfl⟩;have HN:=Hid.mk hN;rw[hN] at gk3 NN;clear hN
 go_loopg [7] 255 (fun m i v=>∃(j:Nat) (X Z V W:Int),Hid (m+j=255)∧i=.int .i64 (254-(j:Int))∧N256 X∧N256 Z∧N256 V∧N256 W∧Hid (QI X Z V W=Qd.run kN (ofI x) (Fg N.toNat j) (Qd.start (ofI x))) ∧
  v.heap[w.heap.size]?=some (.cells (BA N) 22 (0,0))∧v.heap[w.heap.size+1+1]?=some (.cells (BA 0) 22 (0,0))∧v.heap[bx]?=some (.cells (BA x) 22 (0,0))∧v.heap[bp]?=some (.cells (Q4 X Z V W) 156 (0,0))∧Below w.heap.size w v)
 case atStart=>exact⟨0,1,0,x,1,Hid.mk rfl,rfl,K4,K5,NX,K4,Hid.mk (LF x),gk3,gz3,gx,gp,hB3⟩
 case round =>
  clear gk3 gz3 gx gp hB3;obtain⟨j,X,Z,V,W,HJ,rfl,nX,nZ,nV,nW,HQ,gk,gz,gx,gp,hB⟩:=hrel;have hj255:j≤255:=by have:=HJ.out;omega
  by_cases hj:j<255
  ·have HB:=Hid.mk (Zh N j NN.1)
   have cb:=(cell_of_row wr w.heap.size ((254-j)/8) _ _ _ gk).trans (BH N _ (by omega));have hi1:(0:Int)≤254-(j:Int):=by omega
   have hq8:IntKind.i64.wrap ((254-(j:Int)).tdiv 8)=(((254-j)/8:Nat):Int):=by rw[IntKind.wrap_i64,Ac8 hi1];omega
   have hr8:(254-(j:Int)).tmod 8=(((254-j)%8:Nat):Int):=by rw[Acz hi1];omega
   obtain⟨q,hq⟩:∃q:Nat,(254-j)/8=q:=⟨_,rfl⟩;obtain⟨r,hr⟩:∃r:Nat,(254-j)%8=r:=⟨_,rfl⟩;have hq32:(q:Int)<32:=by omega
   have hr64:r<8:=by omega
   rw[hq] at hq8 cb;rw[hr] at hr8;have HB2:=Hid.mk HB.out;rw[hq,hr] at HB2;clear HB hq hr;have hbq:=Bq N q;unfold BR at hbq;obtain⟨hbq0,hbq1⟩:=hbq;go_wp2_with fail;refine Ay (fun v=>v.heap[bp]?=some (.cells (Q4 X Z V W) 156 (0,0))∧v.heap[bx]?=some (.cells (BA x) 22 (0,0))∧v.cell? ⟨w.heap.size,q,none⟩=some (.int .u8 (byt N q)))
    tmF tmT [0,1,2,3,4,5,6,7,8,9,10,11,12] rfl (by kernel_rfl) (fun _ _ d _ _ h=>by cases d<;>exact h) ⟨gp,gx,cb⟩ (fun HS=>?_)
   apply AN rfl rfl rfl HS
   focus exact fun v h=>Q8 rfl _ X Z V W rfl h.1
   simp only[Act.put,Aci,Acj,Ach];apply AN rfl rfl rfl HS
   focus exact fun v h=>Bj rfl _ _ rfl (Ah _) h.2.1
   simp only[Act.put,Aci,Acj,Ach]
   iterate 3
    apply Au rfl rfl rfl
    focus(intro wq;go_simp;first | done | with_reducible rfl)
    simp only[Act.put,Aci,Acj,Ach]
   apply AN rfl rfl rfl HS
   focus(intro wq hq;have hc:=hq.2.2;go_simp;first | done | with_reducible rfl)
   simp only[Act.put,Aci,Acj,Ach]
   iterate 5
    apply Au rfl rfl rfl
    focus(intro wq;go_simp;first | done | with_reducible rfl)
    simp only[Act.put,Aci,Acj,Ach]
   clear HS;rw[HB2.out];refine Az rfl rfl rfl ?_;intro K hK
   go_simp
   refine(Xa X Z V W x (N.toNat.testBit (254-j)) _ nX nZ nV nW NX).mono ?_;rintro e v6 ⟨⟨X',Z',V',W',rfl,nX',nZ',nV',nW',hQ'⟩,hb6⟩;have HQ2:Hid (QI X' Z' V' W'=Qd.run kN (ofI x) (Fg N.toNat (j+1)) (Qd.start (ofI x))):=Hid.mk (by rw[IV,Po,←HQ.out];exact hQ');clear hQ' HQ;have gk6:=Aj hb6 gk (Aa gk);have gz6:=Aj hb6 gz (Aa gz);have gx6:=Aj hb6 gx (Aa gx);have gp6:=Aj hb6 gp (Aa gp);have hB6:=Below.trans (Below.drew hB) (hb6.mono hB.size);have hwl:=Aa gk;refine hK _ _ (fun _ h=>⟨Aj hb6 h.1 (Aa h.1),Aj hb6 h.2.1 (Aa h.2.1),(hb6.cell hwl).trans h.2.2⟩) ?_;clear hK K hb6 gk gz gx gp hB cb;refine Ub rfl rfl rfl rfl rfl rfl gp6 (AP _ _ _ _) rfl ?_;intro v7 g7 o7;refine Bf ?_;have gk7:=(o7.block w.heap.size (by omega)).trans gk6;have gz7:=(o7.block (w.heap.size+1+1) (by omega)).trans gz6;have gx7:=(o7.block bx (by omega)).trans gx6;have hB7:Below w.heap.size w v7:=Below.trans hB6 (Only.below (b:=bp) (B:=w.heap.size) o7 (by omega));clear o7 gk6 gz6 gx6 gp6 hB6;go_wp2
   go_roundg (255-(j+1))
   case rel=>exact⟨j+1,X',Z',V',W',Hid.mk (by omega),by go_num,nX',nZ',nV',nW',HQ2,gk7,gz7,gx7,g7,hB7⟩
   case measure=>have:=HJ.out;omega
  ·have hj2:j=255:=by omega
   subst hj2
   have HE:Hid ((X*EU Z)%P255=tN k u):=Hid.mk (RW k u X Z V W (by
    have e:ofI (u%W255)=ofI x:=ofI_eq.2 (by have:=HXE.out;have h2:=Int.emod_emod (u%W255) P255;rw[this] at h2;rw[this,h2]);unfold IW;rw[e,HN.out];exact HQ.out.symm))
   go_wp2_with fail;refine Ay (fun v=>v.heap[bp]?=some (.cells (Q4 X Z V W) 156 (0,0)))
    teF teT [0,1,2,3,4,5,6] rfl (by kernel_rfl) (fun _ _ d _ _ h=>by cases d<;>exact h) gp (fun HS=>?_)
   apply Au rfl rfl rfl
   focus(intro wq;go_simp;first | done | with_reducible rfl)
   simp only[Act.put,Aci,Acj,Ach];apply AN rfl rfl rfl HS
   focus exact fun v h=>Of rfl bp 0 X rfl (Ct h (fun j hj=>by rw[Acl];exact Mn X Z V W j hj))
   simp only[Act.put,Aci,Acj,Ach];apply Au rfl rfl rfl
   focus(intro wq;go_simp;first | done | with_reducible rfl)
   simp only[Act.put,Aci,Acj,Ach];apply AN rfl rfl rfl HS
   focus exact fun v h=>Of rfl bp 32 Z rfl (Ct h (Ks X Z V W))
   simp only[Act.put,Aci,Acj,Ach];clear HS;refine Az rfl rfl rfl ?_;intro K hK
   go_simp
   refine(WQ Z _ nZ).mono ?_;rintro e v6 ⟨rfl,hb6⟩;have gz6:=Aj hb6 gz (Aa gz);have hB6:=Below.trans (Below.drew hB) (hb6.mono hB.size);refine hK _ _ (fun _ h=>Aj hb6 h (Aa h)) ?_;clear hK K hb6;refine Az rfl rfl rfl ?_;intro K hK
   go_simp
   refine(Cw X (EU Z) _ nX (Ph Z)).mono ?_;rintro e v7 ⟨rfl,hb7⟩;rw[HE.out];have gz7:=Aj hb7 gz6 (Aa gz6);have hB7:=Below.trans hB6 (hb7.mono hB6.size);refine hK _ _ (fun _ h=>Aj hb7 h (Aa h)) ?_;clear hK K hb7;refine Az rfl rfl rfl ?_;intro K hK;refine E7 _ _ rfl _ _ rfl rfl _ gz7 (Ah _) ?_;intro v8 g8 o8;refine hK _ _ (fun h=>by cases h) ?_;clear hK K;refine Bf ?_;go_wp2;exact bodyPost_ret (v:=.agg (BA (tN k u))) (results_cell_row rfl _ _ _ _ _ _ _ rfl g8 underlying22 rfl (by rw[Ah];exact Bo)) rfl
    ⟨rfl,Below.trans hB7 (Only.below (b:=w.heap.size+1+1) (B:=w.heap.size) o8 (by omega))⟩
theorem Aa3(w:World):(Instr.build 22 #[(0,.int .u8 9)]).run prog w=.ok (.agg (BA 9)) w:=by kernel_rfl
theorem rpublic_any(k:Int)(w:World)(hk:N256 k):Calls prog 39 #[.agg (BA k)] w fun e w'=>e=.returned (.agg (BA (tN k 9)))∧Below w.heap.size w w':=by
 have HK:=Hid.mk hk;clear hk;go_enter func39,ntmps39
 go_wp2_with (first|(refine A7 rfl _ rfl _ _ rfl (heap_alloc2_old w _ _) (Ah _) ?_)|(refine Ae rfl (Iq 0 9 rfl 9 (Aa3 _)) ?_))
 refine(MY k 9 _ HK.out).mono ?_;rintro e v2 ⟨rfl,hb2⟩;have gz:=Aj hb2 (heap_alloc2_new w _ _) (by simp);have hB:=Below.trans (((Below.refl _ w).alloc (Acg _) _).alloc (by simp) _) (hb2.mono (by simp;omega));clear hb2
 go_wp2_with (refine AZ (by rfl) (by rfl) gz (by rfl) ?_;intro v3 g3 o3)
 exact bodyPost_ret (v:=.agg (BA (tN k 9))) (results_cell_row rfl _ _ _ _ _ _ _ rfl g3 underlying22 rfl (by rw[Ah];exact Bo)) rfl
  ⟨rfl,Below.trans hB (Only.below (b:=w.heap.size+1) (B:=w.heap.size) o3 (by omega))⟩
theorem MZ{a:Act}{o:Oper}{w:World}(x y:Operand)(t:TypeId)(ho:o.op=.binOp .neq 22 x y t)(m n:Int)(hx:a.eval x=.agg (BA m))(hy:a.eval y=.agg (BA n))(hm:N256 m)(hn:N256 n):(execOp a.eval o).run prog w=.ok (.value (.bool (!(m==n)))) w:=by
 unfold execOp;simp only[ho,hx,hy,Sem.run_bind,run_eqGuard_agg w .neq 22 x y _ _ Abx,Result.andThen_ok,run_neq_struct,OX m n 9998 w,YQ hm.1 hm.2 hn.1 hn.2,Sem.run_pure]
def Eo(cs:Array Value)(t:TypeId)(ob:Obj):Prop:=ob=.cells cs t (0,0)
def UE(b:Nat)(v:Value):Prop:=v=.pointer (some ⟨b,0,none⟩)
def UF(n b:Nat)(v:Value):Prop:=v=.slice (some ⟨b,0,none⟩) n n
def kv(x:Value):Kw:=.val (fun v=>v=x)
def kp(cs:Array Value)(t:TypeId)(s:Nat)(cs':Array Value):Kw:=.new UE ⟨Eo cs t,[(s,Eo cs' t)]⟩
def ks(n:Nat)(cs:Array Value)(t:TypeId):Kw:=.new (UF n) ⟨Eo cs t,[]⟩
def AQ(cs:Array Value)(t:TypeId):Cont:=⟨Eo cs t,[]⟩
def once(cs:Array Value)(t:TypeId)(s:Nat)(cs':Array Value):Cont:=⟨Eo cs t,[(s,Eo cs' t)]⟩
theorem Ak{cs:Array Value}{t:TypeId}{w:World}{b:Nat}(h:ContOK (Eo cs t) w b):w.heap[b]?=some (.cells cs t (0,0)):=by
 obtain⟨ob,h,rfl⟩:=h;exact h
theorem Al{cs:Array Value}{t:TypeId}{w:World}{b:Nat}(h:w.heap[b]?=some (.cells cs t (0,0))):ContOK (Eo cs t) w b:=⟨_,h,rfl⟩
theorem Ac{w w':World}(h:Below w.heap.size w w'):Touch (fun _=>False) w w':=⟨h.os,h.tape,h.output,h.size,fun k hk _=>h.block k hk⟩
theorem Ag{b:Nat}{w w':World}(h:Only b w w'):Touch (fun k=>k=b) w w':=⟨h.os,h.tape,h.output,by rw[h.size];exact Acg _,fun k _ hn=>h.block k hn⟩
def Eh(wd v:World):Prop:=Below wd.heap.size wd v∧PrimeAt v
theorem QE{wd w w':World}{T:Nat→Prop}(h0:0<wd.heap.size)(h:Eh wd w)(ht:Touch T w w')(hT:∀k,T k→wd.heap.size≤k):Eh wd w':=by
 have hb:Below wd.heap.size w w':=⟨ht.os,ht.tape,ht.output,ht.size,fun k hk=>ht.block k (AcH hk h.1.size) (fun e=>by have:=hT k e;omega)⟩;exact⟨h.1.trans hb,CN h.2 hb h0⟩
def GLow(B0:Nat):List (Nat×Cont)→Prop
 | []=>True
 | x::l=>B0≤x.1∧GLow B0 l
theorem GLow.at{B0:Nat}:∀{l:List (Nat×Cont)},GLow B0 l→∀k∈l.map (·.1),B0≤k
 | [],_,_,h=>by simp at h
 | x::l,hl,k,h=>by
  rw[Acu] at h
  rcases List.mem_cons.1 h with rfl | h
  ·exact hl.1
  ·exact GLow.at hl.2 k h
theorem Em{wd:World}{G:List (Nat×Cont)}{B:Nat}(h0:0<wd.heap.size)(hB:wd.heap.size≤B)(hG:GLow wd.heap.size G)(w w':World)(h:Eh wd w)(ht:Touch (fun k=>B≤k∨k∈G.map (·.1)) w w'):Eh wd w':=
 QE h0 h ht (fun k hk=>hk.elim (fun hk=>Acp hB hk) (fun hk=>hG.at k hk))
theorem Dy{wd w w':World}(h0:0<wd.heap.size)(h:Eh wd w)(hb:Below wd.heap.size w w'):Eh wd w':=⟨h.1.trans hb,CN h.2 hb h0⟩
theorem Cn{wd w:World}(h:Eh wd w):Eh wd w.drew:=⟨Below.drew h.1,h.2⟩
theorem Cy(w:World):(zeroValue 22).run prog w=.ok (.agg (BA 0)) w:=by kernel_rfl
theorem Gb(w:World):(zeroValue 136).run prog w=.ok (.agg (Q4 0 0 0 0)) w:=by kernel_rfl
theorem Bi{o:Oper}{a:Act}{w:World}{K:Act→World→Prop}{Q:Exit→Act→World→Prop}{t:TypeId}{cs:Array Value}(hz:∀w,(zeroValue t).run prog w=.ok (.agg cs) w)(ho:o.op=.alloc t)(h:∀w',Below w.heap.size w w'→w'.heap[w.heap.size]?=some (.cells cs t (0,0))→K (a.put o.dst (.pointer (some ⟨w.heap.size,0,none⟩))) w'):o.wp prog a w K Q:=by
 have hz:=hz w;unfold Oper.wp execOp;simp only[ho];simp[go_sem,hz];exact h _ ((Below.refl _ _).alloc (Acg _) _) (heap_alloc_new w _)
theorem F5{o:Oper}{a:Act}{w:World}{K:Act→World→Prop}{Q:Exit→Act→World→Prop}{x y:Operand}(ho:o.op=.buildSlice 75 2 #[(0,x),(1,y)]){m n:Int}(hx:a.eval x=.agg (BA m))(hy:a.eval y=.agg (BA n))(h:∀v,v.heap[w.heap.size]?=some (.cells (BA m++BA n) 22 (0,0))→Below w.heap.size w v→K (a.put o.dst (.slice (some ⟨w.heap.size,0,none⟩) 2 2)) v):o.wp prog a w K Q:=by
 have hr:=Ku m n w;unfold Oper.wp execOp;simp only[ho,Acs,Acu,Acq,hx,hy,Sem.run_bind,hr,Result.andThen_ok,Sem.run_pure,Oper.upon];exact h _ (heap_alloc_new w _) ((Below.refl _ _).alloc (Acg _) _)
theorem Ab7{o:Oper}{a:Act}{w:World}{K:Act→World→Prop}{Q:Exit→Act→World→Prop}{x y z:Operand}(ho:o.op=.buildSlice 75 3 #[(0,x),(1,y),(2,z)]){m n k:Int}(hx:a.eval x=.agg (BA m))(hy:a.eval y=.agg (BA n))(hz:a.eval z=.agg (BA k))(h:∀v,v.heap[w.heap.size]?=some (.cells (BA m++BA n++BA k) 22 (0,0))→Below w.heap.size w v→K (a.put o.dst (.slice (some ⟨w.heap.size,0,none⟩) 3 3)) v):o.wp prog a w K Q:=by
 have hr:=YR m n k w;unfold Oper.wp execOp;simp only[ho,Acs,Acu,Acq,hx,hy,hz,Sem.run_bind,hr,Result.andThen_ok,Sem.run_pure,Oper.upon];exact h _ (heap_alloc_new w _) ((Below.refl _ _).alloc (Acg _) _)
theorem Aa4(b k:Nat)(w:World)(hk:k<4):(Instr.fieldAt 136 (.pointer (some ⟨b,0,none⟩)) k).run prog w=.ok (.pointer (some ⟨b,k*32,none⟩)) w:=by
 rcases k with _ | _ | _ | _ | k
 ·kernel_rfl
 ·kernel_rfl
 ·kernel_rfl
 ·kernel_rfl
 ·omega
theorem DX{a:Act}{o:Oper}{w:World}{x:Operand}{k:Nat}(ho:o.op=.fieldAddr 136 x k){b:Nat}(hx:a.eval x=.pointer (some ⟨b,0,none⟩))(hk:k<4):(execOp a.eval o).run prog w=.ok (.value (.pointer (some ⟨b,k*32,none⟩))) w:=by
 have h:=Aa4 b k w hk;unfold execOp;simp only[ho,hx,Sem.run_bind,h,Result.andThen_ok,Sem.run_pure]
theorem Cu{wd:World}{b o:Nat}{n:Int}{cs:Array Value}{t:TypeId}(hg:wd.heap[b]?=some (.cells cs t (0,0)))(h:∀j,j<32→cs[o+j]?=(BA n)[j]?):wd.rangeAt b o (BA n).toList:=
 fun j v hv=>by
  have hj:j<32:=by have:=(List.getElem?_eq_some_iff.1 hv).1;rwa [AcE,Ah] at this
  rw[cell_of_row wd b (o+j) _ _ _ hg,h j hj]
  simpa using hv
theorem Xb(x z v w:Int)(j:Nat)(hj:j<32):(Q4 x z v w)[0*32+j]?=(BA x)[j]?:=by rw[show 0*32+j=j by omega];exact Mn x z v w j hj
theorem C8{f:FuncId}(hc:∀args w,(callFunc f args).run prog w=.ok (.enter f args) w){x:Operand}{ts:Array TypeId}{o:Oper}{a:Act}{w:World}{K:Act→World→Prop}{Q:Exit→Act→World→Prop}(ho:o.op=.call { callee:=.value (.func f),args:=#[x],argTypes:=ts }){V v:Value}(hx:a.eval x=V)(hC:Calls prog f #[V] w fun r w'=>r=.returned v∧Below w.heap.size w w')(h:∀w',Below w.heap.size w w'→K (a.put o.dst v) w'):o.wp prog a w K Q:=WR hc x ts ho V v hx hC h
theorem LG{f:FuncId}(hc:∀args w,(callFunc f args).run prog w=.ok (.enter f args) w){x y:Operand}{ts:Array TypeId}{o:Oper}{a:Act}{w:World}{K:Act→World→Prop}{Q:Exit→Act→World→Prop}(ho:o.op=.call { callee:=.value (.func f),args:=#[x,y],argTypes:=ts }){V V2 v:Value}(hx:a.eval x=V)(hy:a.eval y=V2)(hC:Calls prog f #[V,V2] w fun r w'=>r=.returned v∧Below w.heap.size w w')(h:∀w',Below w.heap.size w w'→K (a.put o.dst v) w'):o.wp prog a w K Q:=JZ hc x y ts ho V V2 v hx hy hC h
theorem IX(args:Array Value)(w:World):(callFunc 58 args).run prog w=.ok (.enter 58 args) w:=by kernel_rfl
theorem Xc(args:Array Value)(w:World):(callFunc 104 args).run prog w=.ok (.enter 104 args) w:=by kernel_rfl
theorem EV:(Tryz.prog.info? 136).map (·.size)=some 128:=by kernel_rfl
theorem Xd{ops:Array Oper}{rest:List Oper}{d:Option Tmp}{X Y:Operand}{t:TypeId}{ps:String}{af:Array Edge}{a:Act}{wd:World}{Q:Exit→Act→World→Prop}{g:Nat}{x z v w:Int}{old:Array Value}(hx:a.eval X=.pointer (some ⟨g,0,none⟩))(hy:a.eval Y=.agg (Q4 x z v w))(hg:wd.heap[g]?=some (.cells old 136 (0,0)))(hold:old.size=128)(h:∀w2,w2.heap[g]?=some (.cells (Q4 x z v w) 136 (0,0))→Only g wd w2→wpList prog ops Q rest (a.put d undef) w2):wpList prog ops Q ({ dst:=d,op:=.store 136 X Y,type:=t,pos:=ps,after:=af,guard:=none }::rest) a wd:=
 Ia rfl 136 X Y rfl g _ hx hy 136 _ hg (by rw[AP];exact EV) (by rw[AP];exact hold) (Oc x z v w) h
theorem JH{a:Act}{o:Oper}{wd:World}{K:Act→World→Prop}{Q:Exit→Act→World→Prop}{X Y:Operand}(ho:o.op=.store 136 X Y){g:Nat}{x z v w:Int}(hx:a.eval X=.pointer (some ⟨g,0,none⟩))(hy:a.eval Y=.agg (Q4 x z v w)){old:Array Value}(hg:wd.heap[g]?=some (.cells old 136 (0,0)))(hold:old.size=128)(h:∀w2,w2.heap[g]?=some (.cells (Q4 x z v w) 136 (0,0))→Only g wd w2→K (a.put o.dst undef) w2):o.wp prog a wd K Q:=
 wp_store_row 136 X Y ho g _ hx hy 136 old hg (by rw[AP];exact EV) (by rw[AP];exact hold) (Oc x z v w) (h _ (setRow_heap wd g old _ 136 (0,0) hg) (Cd wd g _))
theorem Xe{ops:Array Oper}{rest:List Oper}{o:Oper}{a:Act}{wd:World}{Q:Exit→Act→World→Prop}(hgd:o.guard=none)(X:Operand)(ho:o.op=.load 136 X)(g:Nat)(x z v w:Int)(hx:a.eval X=.pointer (some ⟨g,0,none⟩))(hg:wd.heap[g]?=some (.cells (Q4 x z v w) 136 (0,0)))(h:wpList prog ops Q rest (a.put o.dst (.agg (Q4 x z v w))) wd):wpList prog ops Q (o::rest) a wd:=
 wpList_load_row hgd 136 X ho g hx 136 _ (0,0) _ hg underlying136 rfl (by rw[AP];exact EV) h
theorem LH{a:Act}{o:Oper}{X:Operand}{wd:World}(ho:o.op=.load 136 X){g:Nat}{x z v w:Int}(hx:a.eval X=.pointer (some ⟨g,0,none⟩))(hg:wd.heap[g]?=some (.cells (Q4 x z v w) 136 (0,0))):(execOp a.eval o).run prog wd=.ok (.value (.agg (Q4 x z v w))) wd:=by
 unfold execOp;simp only[ho,hx,Instr.loadAt,Instr.sureAddr,Sem.run_bind,Sem.run_pure,Result.andThen_ok,run_loadVar_row wd g 136 136 _ (0,0) _ hg underlying136 rfl (by rw[AP];exact EV)]
theorem Uc(x z v w:Int)(wd:World):(Instr.build 136 #[(0,.agg (BA x)),(1,.agg (BA z)),(2,.agg (BA v)),(3,.agg (BA w))]).run prog wd=.ok (.agg (Q4 x z v w)) wd:=by kernel_rfl
theorem LI{a:Act}{o:Oper}{wd:World}{A B C D:Operand}(ho:o.op=.build 136 #[(0,A),(1,B),(2,C),(3,D)]){x z v w:Int}(hA:a.eval A=.agg (BA x))(hB:a.eval B=.agg (BA z))(hC:a.eval C=.agg (BA v))(hD:a.eval D=.agg (BA w)):(execOp a.eval o).run prog wd=.ok (.value (.agg (Q4 x z v w))) wd:=by
 have h:=Uc x z v w wd;unfold execOp;simp only[ho,Acs,Acu,Acq,hA,hB,hC,hD,Sem.run_bind,h,Result.andThen_ok,Sem.run_pure]
theorem BZ{a:Act}{o:Oper}{x:Operand}{w:World}(ho:o.op=.load 22 x){g:Nat}{n:Int}(hx:a.eval x=.pointer (some ⟨g,0,none⟩))(hg:w.heap[g]?=some (.cells (BA n) 22 (0,0))):(execOp a.eval o).run prog w=.ok (.value (.agg (BA n))) w:=Bj ho g _ hx (Ah _) hg
theorem H5{a:Act}{o:Oper}{x:Operand}{w:World}(ho:o.op=.load 22 x){b off:Nat}{n:Int}(hx:a.eval x=.pointer (some ⟨b,off,none⟩))(hc:w.rangeAt b off (BA n).toList):(execOp a.eval o).run prog w=.ok (.value (.agg (BA n))) w:=Of ho b off n hx hc
theorem Ca{a:Act}{o:Oper}{w:World}{K:Act→World→Prop}{Q:Exit→Act→World→Prop}{x y:Operand}(ho:o.op=.store 22 x y){g:Nat}{n:Int}(hx:a.eval x=.pointer (some ⟨g,0,none⟩))(hy:a.eval y=.agg (BA n)){m:Int}(hg:w.heap[g]?=some (.cells (BA m) 22 (0,0)))(h:∀w2,w2.heap[g]?=some (.cells (BA n) 22 (0,0))→Only g w w2→K (a.put o.dst undef) w2):o.wp prog a w K Q:=E7 x y ho g n hx hy _ hg (Ah _) h
theorem QF(x z v w u a1 b1 c1 d1 aa bb ee da cb sm rs nx mm t1 t2 nz nv nw:Int)(ha1:(x+z)%P255=a1)(hb1:(x-z)%P255=b1)(hc1:(v+w)%P255=c1)(hd1:(v-w)%P255=d1)(haa:a1*a1%P255=aa)(hbb:b1*b1%P255=bb)(hda:d1*a1%P255=da)(hcb:c1*b1%P255=cb)(hee:(aa-bb)%P255=ee)(hsm:(da+cb)%P255=sm)(hrs:(da-cb)%P255=rs)(hnx:aa*bb%P255=nx)(hmm:121665%P255=mm)(ht1:mm*ee%P255=t1)(ht2:(aa+t1)%P255=t2)(hnz:ee*t2%P255=nz)(hnv:sm*sm%P255=nv)(hnw:u*(rs*rs)%P255=nw):QI nx nz nv nw=Qd.core kN (ofI u) (QI x z v w):=by
 rw[WZ];subst ha1 hb1 hc1 hd1 haa hbb hda hcb hee hsm hrs hnx hmm ht1 ht2 hnz hnv hnw;simp only[QI,Qd.core,RT,K3,Od,RV]
theorem Pp(x z v w u:Int)(wd:World)(hP:PrimeAt wd)(Nx:N256 x)(Nz:N256 z)(Nv:N256 v)(Nw:N256 w)(Nu:N256 u):Calls prog 135 #[.agg (Q4 x z v w),.agg (BA u)] wd fun e w'=>(∃x' z' v' w2,e=.returned (.agg (Q4 x' z' v' w2))∧N256 x'∧N256 z'∧N256 v'∧N256 w2∧QI x' z' v' w2=Qd.core kN (ofI u) (QI x z v w))∧Below wd.heap.size wd w':=by
 have hz:=Cr hP;have hzero:=Gb;have HP:=Hid.mk hP;clear hP;go_enter func135,ntmps135;go_wp2_with fail;refine AJ (fun v0=>v0.heap[wd.heap.size]?=some (.cells (Q4 x z v w) 136 (0,0))∧v0.heap[wd.heap.size+1]?=some (.cells (BA u) 22 (0,0))∧v0.heap[wd.heap.size+1+1]?=some (.cells (Q4 0 0 0 0) 136 (0,0))∧Eh wd v0)
  ⟨A6 wd _ _ _,AB wd _ _ _,AK wd _ _ _,Dy hz ⟨Below.refl _ _,HP.out⟩ (by repeat first | exact Below.refl _ _ | refine Below.alloc ?_ (by simp<;>omega) _)⟩ ?_
 rintro v0 ⟨g2,g3,g4,hK⟩;have hs:wd.heap.size+3≤v0.heap.size:=by have:=Aa g4;omega
 clear hzero HP;obtain⟨a1,ha1⟩:∃y,(x+z)%P255=y:=⟨_,rfl⟩;have Na1:N256 a1:=ha1▸N256.mod _;have Ha1:=Hid.mk ha1;clear ha1;obtain⟨b1,hb1⟩:∃y,(x-z)%P255=y:=⟨_,rfl⟩;have Nb1:N256 b1:=hb1▸N256.mod _;have Hb1:=Hid.mk hb1;clear hb1;go_wp2_with fail;refine Ai (Eh wd) v0.heap.size
  [(wd.heap.size,AQ (Q4 x z v w) 136),((wd.heap.size+1),AQ (BA u) 22),((wd.heap.size+1+1),AQ (Q4 0 0 0 0) 136)]
  [kv (.pointer (some ⟨wd.heap.size,0*32,none⟩)),kv (.agg (BA x)),kv (.pointer (some ⟨wd.heap.size,1*32,none⟩)),kv (.agg (BA z)),ks 2 (BA x++BA z) 22,kv (.agg (BA a1)),kv (.pointer (some ⟨wd.heap.size,0*32,none⟩)),kv (.agg (BA x)),kv (.pointer (some ⟨wd.heap.size,1*32,none⟩)),kv (.agg (BA z)),kv (.agg (BA b1)),kp (BA 0) 22 13 (BA a1),kp (BA 0) 22 14 (BA b1),.val fun _=>True,.val fun _=>True]
  [.none,.none,.none,.none,.none,.none,.none,.none,.none,.none,.none,.none,.none,.own 11 1,.own 12 1]
  [some 16,some 17,some 18,some 19,some 20,some 21,some 22,some 23,some 24,some 25,some 26,some 5,some 6,none,none]
  [(2,.pointer (some ⟨wd.heap.size,0,none⟩))]
  [[],[.slot 0,.base 0 0],[],[.slot 2,.base 0 0],[.slot 1,.slot 3],[.slot 4,.cont 4 0],[],[.slot 6,.base 0 0],[],[.slot 8,.base 0 0],[.slot 7,.slot 9],[],[],[.slot 11,.cont 11 0,.slot 5],[.slot 12,.cont 12 0,.slot 10]]
  [.slot 11,.cont 11 1,.slot 12,.cont 12 1,.base 0 0,.base 1 0,.base 2 0] [16,17,18,19,20,21,22,23,24,25,26,5,6]
  rfl (by kernel_rfl) ⟨rfl,trivial⟩ (Cn hK) (Acg _) ⟨⟨Aa g2,Al g2⟩,⟨Aa g3,Al g3⟩,⟨Aa g4,Al g4⟩,trivial⟩ ⟨⟨trivial,trivial,trivial⟩,⟨trivial,trivial⟩,trivial,trivial⟩ (Em hz (by omega) ⟨(by omega),(by omega),(by omega),trivial⟩)
  ⟨
   sL fun f _=>sV (DX rfl f.1 (by decide)),
   sL fun _ k=>sV (H5 rfl k.1 (Cu (Ak k.2.1) (Xb x z v w))),
   sL fun f _=>sV (DX rfl f.1 (by decide)),
   sL fun _ k=>sV (H5 rfl k.1 (Cu (Ak k.2.1) (Ks x z v w))),
   sL fun _ k=>.inl ⟨trivial,fun K hK=>F5 rfl k.1 k.2.1 (fun v hg hb=>hK _ _ ⟨Ac hb,_,Acg _,rfl,Al hg⟩)⟩,
   (fun _ _ ww _ _ _ _ kn=>.inl ⟨trivial,fun K hK=>C8 IU rfl kn.1.1 (YS x z _ ww Nx Nz (F2 (Ak kn.2.1)) kn.1.2.2) (fun w' hb=>hK _ _ ⟨Ac hb,(congrArg (fun n=>Value.agg (BA n)) Ha1.out)⟩)⟩),
   sL fun f _=>sV (DX rfl f.1 (by decide)),
   sL fun _ k=>sV (H5 rfl k.1 (Cu (Ak k.2.1) (Xb x z v w))),
   sL fun f _=>sV (DX rfl f.1 (by decide)),
   sL fun _ k=>sV (H5 rfl k.1 (Cu (Ak k.2.1) (Ks x z v w))),
   (fun _ _ ww _ hS _ _ kn=>.inl ⟨trivial,fun K hK=>LG L7 rfl kn.1 kn.2.1 (K1 x z ww hS.2 Nx.1 Nx.2 Nz.1 Nz.2) (fun w' hb=>hK _ _ ⟨Ac hb,(congrArg (fun n=>Value.agg (BA n)) Hb1.out)⟩)⟩),
   sL fun _ _=>.inl ⟨trivial,fun K hK=>Bi Cy rfl (fun w' hb hg=>hK _ _ ⟨Ac hb,_,Acg _,rfl,Al hg⟩)⟩,
   sL fun _ _=>.inl ⟨trivial,fun K hK=>Bi Cy rfl (fun w' hb hg=>hK _ _ ⟨Ac hb,_,Acg _,rfl,Al hg⟩)⟩,
   sL fun _ k=>.inl ⟨trivial,fun K hK=>Ca rfl k.1.1 k.2.2.1 (Ak k.2.1) (fun w2 hg ho=>hK _ _ ⟨Ag ho,Al hg,trivial⟩)⟩,
   sL fun _ k=>.inl ⟨trivial,fun K hK=>Ca rfl k.1.1 k.2.2.1 (Ak k.2.1) (fun w2 hg ho=>hK _ _ ⟨Ag ho,Al hg,trivial⟩)⟩,
   trivial⟩ ?_
 intro vs1 own v1 hK1 hs1 kn inj;clear inj;have e5:vs1 5=.pointer (some ⟨own 11,0,none⟩):=kn.1.1;have l5:v0.heap.size≤own 11:=kn.1.2.1;have g5:=Ak kn.2.1;have e6:vs1 6=.pointer (some ⟨own 12,0,none⟩):=kn.2.2.1.1;have l6:v0.heap.size≤own 12:=kn.2.2.1.2.1;have g6:=Ak kn.2.2.2.1;have g2_:=Ak kn.2.2.2.2.1;have g3_:=Ak kn.2.2.2.2.2.1;have g4_:=Ak kn.2.2.2.2.2.2.1;clear kn;generalize own 11=b5 at *;generalize own 12=b6 at *;simp only[Am,Act.put,Aci,Acj,Ach,e5,e6];replace l5:wd.heap.size+3≤b5:=by omega
 replace l6:wd.heap.size+3≤b6:=by omega
 replace hs:wd.heap.size+3≤v1.heap.size:=by omega
 clear e5 e6 g2 g3 g4 hs1;have g2:=g2_;clear g2_;have g3:=g3_;clear g3_;have g4:=g4_;clear g4_;clear hK;have hK:=hK1;clear hK1;clear own;obtain⟨c1,hc1⟩:∃y,(v+w)%P255=y:=⟨_,rfl⟩;have Nc1:N256 c1:=hc1▸N256.mod _;have Hc1:=Hid.mk hc1;clear hc1;obtain⟨d1,hd1⟩:∃y,(v-w)%P255=y:=⟨_,rfl⟩;have Nd1:N256 d1:=hd1▸N256.mod _;have Hd1:=Hid.mk hd1;clear hd1;go_wp2_with fail;refine Ai (Eh wd) v1.heap.size
  [(wd.heap.size,AQ (Q4 x z v w) 136),((wd.heap.size+1),AQ (BA u) 22),((wd.heap.size+1+1),AQ (Q4 0 0 0 0) 136),(b5,AQ (BA a1) 22),(b6,AQ (BA b1) 22)]
  [kv (.pointer (some ⟨wd.heap.size,2*32,none⟩)),kv (.agg (BA v)),kv (.pointer (some ⟨wd.heap.size,3*32,none⟩)),kv (.agg (BA w)),ks 2 (BA v++BA w) 22,kv (.agg (BA c1)),kv (.pointer (some ⟨wd.heap.size,2*32,none⟩)),kv (.agg (BA v)),kv (.pointer (some ⟨wd.heap.size,3*32,none⟩)),kv (.agg (BA w)),kv (.agg (BA d1)),kp (BA 0) 22 13 (BA c1),kp (BA 0) 22 14 (BA d1),.val fun _=>True,.val fun _=>True]
  [.none,.none,.none,.none,.none,.none,.none,.none,.none,.none,.none,.none,.none,.own 11 1,.own 12 1]
  [some 27,some 28,some 29,some 30,some 31,some 32,some 33,some 34,some 35,some 36,some 37,some 7,some 8,none,none]
  [(2,.pointer (some ⟨wd.heap.size,0,none⟩))]
  [[],[.slot 0,.base 0 0],[],[.slot 2,.base 0 0],[.slot 1,.slot 3],[.slot 4,.cont 4 0],[],[.slot 6,.base 0 0],[],[.slot 8,.base 0 0],[.slot 7,.slot 9],[],[],[.slot 11,.cont 11 0,.slot 5],[.slot 12,.cont 12 0,.slot 10]]
  [.slot 11,.cont 11 1,.slot 12,.cont 12 1,.base 0 0,.base 1 0,.base 2 0,.base 3 0,.base 4 0] [27,28,29,30,31,32,33,34,35,36,37,7,8]
  rfl (by kernel_rfl) ⟨rfl,trivial⟩ (Cn hK) (Acg _) ⟨⟨Aa g2,Al g2⟩,⟨Aa g3,Al g3⟩,⟨Aa g4,Al g4⟩,⟨Aa g5,Al g5⟩,⟨Aa g6,Al g6⟩,trivial⟩ ⟨⟨trivial,trivial,trivial,trivial,trivial⟩,⟨trivial,trivial,trivial,trivial⟩,⟨trivial,trivial,trivial⟩,⟨trivial,trivial⟩,trivial,trivial⟩ (Em hz (by omega) ⟨(by omega),(by omega),(by omega),(by omega),(by omega),trivial⟩)
  ⟨
   sL fun f _=>sV (DX rfl f.1 (by decide)),
   sL fun _ k=>sV (H5 rfl k.1 (Cu (Ak k.2.1) (Mo x z v w))),
   sL fun f _=>sV (DX rfl f.1 (by decide)),
   sL fun _ k=>sV (H5 rfl k.1 (Cu (Ak k.2.1) (Mp x z v w))),
   sL fun _ k=>.inl ⟨trivial,fun K hK=>F5 rfl k.1 k.2.1 (fun v hg hb=>hK _ _ ⟨Ac hb,_,Acg _,rfl,Al hg⟩)⟩,
   (fun _ _ ww _ _ _ _ kn=>.inl ⟨trivial,fun K hK=>C8 IU rfl kn.1.1 (YS v w _ ww Nv Nw (F2 (Ak kn.2.1)) kn.1.2.2) (fun w' hb=>hK _ _ ⟨Ac hb,(congrArg (fun n=>Value.agg (BA n)) Hc1.out)⟩)⟩),
   sL fun f _=>sV (DX rfl f.1 (by decide)),
   sL fun _ k=>sV (H5 rfl k.1 (Cu (Ak k.2.1) (Mo x z v w))),
   sL fun f _=>sV (DX rfl f.1 (by decide)),
   sL fun _ k=>sV (H5 rfl k.1 (Cu (Ak k.2.1) (Mp x z v w))),
   (fun _ _ ww _ hS _ _ kn=>.inl ⟨trivial,fun K hK=>LG L7 rfl kn.1 kn.2.1 (K1 v w ww hS.2 Nv.1 Nv.2 Nw.1 Nw.2) (fun w' hb=>hK _ _ ⟨Ac hb,(congrArg (fun n=>Value.agg (BA n)) Hd1.out)⟩)⟩),
   sL fun _ _=>.inl ⟨trivial,fun K hK=>Bi Cy rfl (fun w' hb hg=>hK _ _ ⟨Ac hb,_,Acg _,rfl,Al hg⟩)⟩,
   sL fun _ _=>.inl ⟨trivial,fun K hK=>Bi Cy rfl (fun w' hb hg=>hK _ _ ⟨Ac hb,_,Acg _,rfl,Al hg⟩)⟩,
   sL fun _ k=>.inl ⟨trivial,fun K hK=>Ca rfl k.1.1 k.2.2.1 (Ak k.2.1) (fun w2 hg ho=>hK _ _ ⟨Ag ho,Al hg,trivial⟩)⟩,
   sL fun _ k=>.inl ⟨trivial,fun K hK=>Ca rfl k.1.1 k.2.2.1 (Ak k.2.1) (fun w2 hg ho=>hK _ _ ⟨Ag ho,Al hg,trivial⟩)⟩,
   trivial⟩ ?_
 intro vs2 own v2 hK2 hs2 kn inj;clear inj;have e7:vs2 7=.pointer (some ⟨own 11,0,none⟩):=kn.1.1;have l7:v1.heap.size≤own 11:=kn.1.2.1;have g7:=Ak kn.2.1;have e8:vs2 8=.pointer (some ⟨own 12,0,none⟩):=kn.2.2.1.1;have l8:v1.heap.size≤own 12:=kn.2.2.1.2.1;have g8:=Ak kn.2.2.2.1;have g2_:=Ak kn.2.2.2.2.1;have g3_:=Ak kn.2.2.2.2.2.1;have g4_:=Ak kn.2.2.2.2.2.2.1;have g5_:=Ak kn.2.2.2.2.2.2.2.1;have g6_:=Ak kn.2.2.2.2.2.2.2.2.1;clear kn;generalize own 11=b7 at *;generalize own 12=b8 at *;simp only[Am,Act.put,Aci,Acj,Ach,e7,e8];replace l7:wd.heap.size+3≤b7:=by omega
 replace l8:wd.heap.size+3≤b8:=by omega
 replace hs:wd.heap.size+3≤v2.heap.size:=by omega
 clear e7 e8 g2 g3 g4 g5 g6 hs2;have g2:=g2_;clear g2_;have g3:=g3_;clear g3_;have g4:=g4_;clear g4_;have g5:=g5_;clear g5_;have g6:=g6_;clear g6_;clear hK;have hK:=hK2;clear hK2;clear own;obtain⟨aa,haa⟩:∃y,a1*a1%P255=y:=⟨_,rfl⟩;have Naa:N256 aa:=haa▸N256.mod _;have Haa:=Hid.mk haa;clear haa;obtain⟨bb,hbb⟩:∃y,b1*b1%P255=y:=⟨_,rfl⟩;have Nbb:N256 bb:=hbb▸N256.mod _;have Hbb:=Hid.mk hbb;clear hbb;go_wp2_with fail;refine Ai (Eh wd) v2.heap.size
  [(wd.heap.size,AQ (Q4 x z v w) 136),((wd.heap.size+1),AQ (BA u) 22),((wd.heap.size+1+1),AQ (Q4 0 0 0 0) 136),(b5,AQ (BA a1) 22),(b6,AQ (BA b1) 22),(b7,AQ (BA c1) 22),(b8,AQ (BA d1) 22)]
  [kv (.agg (BA a1)),kv (.agg (BA a1)),ks 2 (BA a1++BA a1) 22,kv (.agg (BA aa)),kv (.agg (BA b1)),kv (.agg (BA b1)),ks 2 (BA b1++BA b1) 22,kv (.agg (BA bb)),kp (BA 0) 22 10 (BA aa),kp (BA 0) 22 11 (BA bb),.val fun _=>True,.val fun _=>True]
  [.none,.none,.none,.none,.none,.none,.none,.none,.none,.none,.own 8 1,.own 9 1]
  [some 38,some 39,some 40,some 41,some 42,some 43,some 44,some 45,some 9,some 10,none,none]
  [(5,.pointer (some ⟨b5,0,none⟩)),(6,.pointer (some ⟨b6,0,none⟩))]
  [[.base 3 0],[.base 3 0],[.slot 0,.slot 1],[.slot 2,.cont 2 0],[.base 4 0],[.base 4 0],[.slot 4,.slot 5],[.slot 6,.cont 6 0],[],[],[.slot 8,.cont 8 0,.slot 3],[.slot 9,.cont 9 0,.slot 7]]
  [.slot 8,.cont 8 1,.slot 9,.cont 9 1,.base 0 0,.base 1 0,.base 2 0,.base 3 0,.base 4 0,.base 5 0,.base 6 0] [38,39,40,41,42,43,44,45,9,10]
  rfl (by kernel_rfl) ⟨rfl,rfl,trivial⟩ (Cn hK) (Acg _) ⟨⟨Aa g2,Al g2⟩,⟨Aa g3,Al g3⟩,⟨Aa g4,Al g4⟩,⟨Aa g5,Al g5⟩,⟨Aa g6,Al g6⟩,⟨Aa g7,Al g7⟩,⟨Aa g8,Al g8⟩,trivial⟩ ⟨⟨trivial,trivial,trivial,trivial,trivial,trivial,trivial⟩,⟨trivial,trivial,trivial,trivial,trivial,trivial⟩,⟨trivial,trivial,trivial,trivial,trivial⟩,⟨trivial,trivial,trivial,trivial⟩,⟨trivial,trivial,trivial⟩,⟨trivial,trivial⟩,trivial,trivial⟩ (Em hz (by omega) ⟨(by omega),(by omega),(by omega),(by omega),(by omega),(by omega),(by omega),trivial⟩)
  ⟨
   sL fun f k=>sV (BZ rfl f.1 (Ak k.1)),
   sL fun f k=>sV (BZ rfl f.1 (Ak k.1)),
   sL fun _ k=>.inl ⟨trivial,fun K hK=>F5 rfl k.1 k.2.1 (fun v hg hb=>hK _ _ ⟨Ac hb,_,Acg _,rfl,Al hg⟩)⟩,
   (fun _ _ ww _ _ _ _ kn=>.inl ⟨trivial,fun K hK=>C8 Ds rfl kn.1.1 (NT a1 a1 _ ww Na1 Na1 (F2 (Ak kn.2.1)) kn.1.2.2) (fun w' hb=>hK _ _ ⟨Ac hb,(congrArg (fun n=>Value.agg (BA n)) Haa.out)⟩)⟩),
   sL fun f k=>sV (BZ rfl f.2.1 (Ak k.1)),
   sL fun f k=>sV (BZ rfl f.2.1 (Ak k.1)),
   sL fun _ k=>.inl ⟨trivial,fun K hK=>F5 rfl k.1 k.2.1 (fun v hg hb=>hK _ _ ⟨Ac hb,_,Acg _,rfl,Al hg⟩)⟩,
   (fun _ _ ww _ _ _ _ kn=>.inl ⟨trivial,fun K hK=>C8 Ds rfl kn.1.1 (NT b1 b1 _ ww Nb1 Nb1 (F2 (Ak kn.2.1)) kn.1.2.2) (fun w' hb=>hK _ _ ⟨Ac hb,(congrArg (fun n=>Value.agg (BA n)) Hbb.out)⟩)⟩),
   sL fun _ _=>.inl ⟨trivial,fun K hK=>Bi Cy rfl (fun w' hb hg=>hK _ _ ⟨Ac hb,_,Acg _,rfl,Al hg⟩)⟩,
   sL fun _ _=>.inl ⟨trivial,fun K hK=>Bi Cy rfl (fun w' hb hg=>hK _ _ ⟨Ac hb,_,Acg _,rfl,Al hg⟩)⟩,
   sL fun _ k=>.inl ⟨trivial,fun K hK=>Ca rfl k.1.1 k.2.2.1 (Ak k.2.1) (fun w2 hg ho=>hK _ _ ⟨Ag ho,Al hg,trivial⟩)⟩,
   sL fun _ k=>.inl ⟨trivial,fun K hK=>Ca rfl k.1.1 k.2.2.1 (Ak k.2.1) (fun w2 hg ho=>hK _ _ ⟨Ag ho,Al hg,trivial⟩)⟩,
   trivial⟩ ?_
 intro vs3 own v3 hK3 hs3 kn inj;clear inj;have e9:vs3 9=.pointer (some ⟨own 8,0,none⟩):=kn.1.1;have l9:v2.heap.size≤own 8:=kn.1.2.1;have g9:=Ak kn.2.1;have e10:vs3 10=.pointer (some ⟨own 9,0,none⟩):=kn.2.2.1.1;have l10:v2.heap.size≤own 9:=kn.2.2.1.2.1;have g10:=Ak kn.2.2.2.1;have g2_:=Ak kn.2.2.2.2.1;have g3_:=Ak kn.2.2.2.2.2.1;have g4_:=Ak kn.2.2.2.2.2.2.1;have g5_:=Ak kn.2.2.2.2.2.2.2.1;have g6_:=Ak kn.2.2.2.2.2.2.2.2.1;have g7_:=Ak kn.2.2.2.2.2.2.2.2.2.1;have g8_:=Ak kn.2.2.2.2.2.2.2.2.2.2.1;clear kn;generalize own 8=b9 at *;generalize own 9=b10 at *;simp only[Am,Act.put,Aci,Acj,Ach,e9,e10];replace l9:wd.heap.size+3≤b9:=by omega
 replace l10:wd.heap.size+3≤b10:=by omega
 replace hs:wd.heap.size+3≤v3.heap.size:=by omega
 clear e9 e10 g2 g3 g4 g5 g6 g7 g8 hs3;have g2:=g2_;clear g2_;have g3:=g3_;clear g3_;have g4:=g4_;clear g4_;have g5:=g5_;clear g5_;have g6:=g6_;clear g6_;have g7:=g7_;clear g7_;have g8:=g8_;clear g8_;clear hK;have hK:=hK3;clear hK3;clear own;obtain⟨da,hda⟩:∃y,d1*a1%P255=y:=⟨_,rfl⟩;have Nda:N256 da:=hda▸N256.mod _;have Hda:=Hid.mk hda;clear hda;obtain⟨cb,hcb⟩:∃y,c1*b1%P255=y:=⟨_,rfl⟩;have Ncb:N256 cb:=hcb▸N256.mod _;have Hcb:=Hid.mk hcb;clear hcb;go_wp2_with fail;refine Ai (Eh wd) v3.heap.size
  [(wd.heap.size,AQ (Q4 x z v w) 136),((wd.heap.size+1),AQ (BA u) 22),((wd.heap.size+1+1),AQ (Q4 0 0 0 0) 136),(b5,AQ (BA a1) 22),(b6,AQ (BA b1) 22),(b7,AQ (BA c1) 22),(b8,AQ (BA d1) 22),(b9,AQ (BA aa) 22),(b10,AQ (BA bb) 22)]
  [kv (.agg (BA d1)),kv (.agg (BA a1)),ks 2 (BA d1++BA a1) 22,kv (.agg (BA da)),kv (.agg (BA c1)),kv (.agg (BA b1)),ks 2 (BA c1++BA b1) 22,kv (.agg (BA cb)),kp (BA 0) 22 10 (BA da),kp (BA 0) 22 11 (BA cb),.val fun _=>True,.val fun _=>True]
  [.none,.none,.none,.none,.none,.none,.none,.none,.none,.none,.own 8 1,.own 9 1]
  [some 46,some 47,some 48,some 49,some 50,some 51,some 52,some 53,some 11,some 12,none,none]
  [(5,.pointer (some ⟨b5,0,none⟩)),(6,.pointer (some ⟨b6,0,none⟩)),(7,.pointer (some ⟨b7,0,none⟩)),(8,.pointer (some ⟨b8,0,none⟩))]
  [[.base 6 0],[.base 3 0],[.slot 0,.slot 1],[.slot 2,.cont 2 0],[.base 5 0],[.base 4 0],[.slot 4,.slot 5],[.slot 6,.cont 6 0],[],[],[.slot 8,.cont 8 0,.slot 3],[.slot 9,.cont 9 0,.slot 7]]
  [.slot 8,.cont 8 1,.slot 9,.cont 9 1,.base 0 0,.base 1 0,.base 2 0,.base 3 0,.base 4 0,.base 5 0,.base 6 0,.base 7 0,.base 8 0] [46,47,48,49,50,51,52,53,11,12]
  rfl (by kernel_rfl) ⟨rfl,rfl,rfl,rfl,trivial⟩ (Cn hK) (Acg _) ⟨⟨Aa g2,Al g2⟩,⟨Aa g3,Al g3⟩,⟨Aa g4,Al g4⟩,⟨Aa g5,Al g5⟩,⟨Aa g6,Al g6⟩,⟨Aa g7,Al g7⟩,⟨Aa g8,Al g8⟩,⟨Aa g9,Al g9⟩,⟨Aa g10,Al g10⟩,trivial⟩ ⟨⟨trivial,trivial,trivial,trivial,trivial,trivial,trivial,trivial,trivial⟩,⟨trivial,trivial,trivial,trivial,trivial,trivial,trivial,trivial⟩,⟨trivial,trivial,trivial,trivial,trivial,trivial,trivial⟩,⟨trivial,trivial,trivial,trivial,trivial,trivial⟩,⟨trivial,trivial,trivial,trivial,trivial⟩,⟨trivial,trivial,trivial,trivial⟩,⟨trivial,trivial,trivial⟩,⟨trivial,trivial⟩,trivial,trivial⟩ (Em hz (by omega) ⟨(by omega),(by omega),(by omega),(by omega),(by omega),(by omega),(by omega),(by omega),(by omega),trivial⟩)
  ⟨
   sL fun f k=>sV (BZ rfl f.2.2.2.1 (Ak k.1)),
   sL fun f k=>sV (BZ rfl f.1 (Ak k.1)),
   sL fun _ k=>.inl ⟨trivial,fun K hK=>F5 rfl k.1 k.2.1 (fun v hg hb=>hK _ _ ⟨Ac hb,_,Acg _,rfl,Al hg⟩)⟩,
   (fun _ _ ww _ _ _ _ kn=>.inl ⟨trivial,fun K hK=>C8 Ds rfl kn.1.1 (NT d1 a1 _ ww Nd1 Na1 (F2 (Ak kn.2.1)) kn.1.2.2) (fun w' hb=>hK _ _ ⟨Ac hb,(congrArg (fun n=>Value.agg (BA n)) Hda.out)⟩)⟩),
   sL fun f k=>sV (BZ rfl f.2.2.1 (Ak k.1)),
   sL fun f k=>sV (BZ rfl f.2.1 (Ak k.1)),
   sL fun _ k=>.inl ⟨trivial,fun K hK=>F5 rfl k.1 k.2.1 (fun v hg hb=>hK _ _ ⟨Ac hb,_,Acg _,rfl,Al hg⟩)⟩,
   (fun _ _ ww _ _ _ _ kn=>.inl ⟨trivial,fun K hK=>C8 Ds rfl kn.1.1 (NT c1 b1 _ ww Nc1 Nb1 (F2 (Ak kn.2.1)) kn.1.2.2) (fun w' hb=>hK _ _ ⟨Ac hb,(congrArg (fun n=>Value.agg (BA n)) Hcb.out)⟩)⟩),
   sL fun _ _=>.inl ⟨trivial,fun K hK=>Bi Cy rfl (fun w' hb hg=>hK _ _ ⟨Ac hb,_,Acg _,rfl,Al hg⟩)⟩,
   sL fun _ _=>.inl ⟨trivial,fun K hK=>Bi Cy rfl (fun w' hb hg=>hK _ _ ⟨Ac hb,_,Acg _,rfl,Al hg⟩)⟩,
   sL fun _ k=>.inl ⟨trivial,fun K hK=>Ca rfl k.1.1 k.2.2.1 (Ak k.2.1) (fun w2 hg ho=>hK _ _ ⟨Ag ho,Al hg,trivial⟩)⟩,
   sL fun _ k=>.inl ⟨trivial,fun K hK=>Ca rfl k.1.1 k.2.2.1 (Ak k.2.1) (fun w2 hg ho=>hK _ _ ⟨Ag ho,Al hg,trivial⟩)⟩,
   trivial⟩ ?_
 intro vs4 own v4 hK4 hs4 kn inj;clear inj;have e11:vs4 11=.pointer (some ⟨own 8,0,none⟩):=kn.1.1;have l11:v3.heap.size≤own 8:=kn.1.2.1;have g11:=Ak kn.2.1;have e12:vs4 12=.pointer (some ⟨own 9,0,none⟩):=kn.2.2.1.1;have l12:v3.heap.size≤own 9:=kn.2.2.1.2.1;have g12:=Ak kn.2.2.2.1;have g2_:=Ak kn.2.2.2.2.1;have g3_:=Ak kn.2.2.2.2.2.1;have g4_:=Ak kn.2.2.2.2.2.2.1;have g5_:=Ak kn.2.2.2.2.2.2.2.1;have g6_:=Ak kn.2.2.2.2.2.2.2.2.1;have g7_:=Ak kn.2.2.2.2.2.2.2.2.2.1;have g8_:=Ak kn.2.2.2.2.2.2.2.2.2.2.1;have g9_:=Ak kn.2.2.2.2.2.2.2.2.2.2.2.1;have g10_:=Ak kn.2.2.2.2.2.2.2.2.2.2.2.2.1;clear kn;generalize own 8=b11 at *;generalize own 9=b12 at *;simp only[Am,Act.put,Aci,Acj,Ach,e11,e12];replace l11:wd.heap.size+3≤b11:=by omega
 replace l12:wd.heap.size+3≤b12:=by omega
 replace hs:wd.heap.size+3≤v4.heap.size:=by omega
 clear e11 e12 g2 g3 g4 g5 g6 g7 g8 g9 g10 hs4;have g2:=g2_;clear g2_;have g3:=g3_;clear g3_;have g4:=g4_;clear g4_;have g5:=g5_;clear g5_;have g6:=g6_;clear g6_;have g7:=g7_;clear g7_;have g8:=g8_;clear g8_;have g9:=g9_;clear g9_;have g10:=g10_;clear g10_;clear hK;have hK:=hK4;clear hK4;clear own;obtain⟨ee,hee⟩:∃y,(aa-bb)%P255=y:=⟨_,rfl⟩;have Nee:N256 ee:=hee▸N256.mod _;have Hee:=Hid.mk hee;clear hee
 go_wp2_with (first|(refine A7 rfl _ rfl _ _ rfl g9 (Ah _) ?_)|(refine A7 rfl _ rfl _ _ rfl g10 (Ah _) ?_))
 refine(K1 aa bb _ hK.2 Naa.1 Naa.2 Nbb.1 Nbb.2).mono ?_;rintro e u5 ⟨rfl,hb⟩;rw[Hee.out];replace g2:=Aj hb g2 (Aa g2);replace g3:=Aj hb g3 (Aa g3);replace g4:=Aj hb g4 (Aa g4);replace g5:=Aj hb g5 (Aa g5);replace g6:=Aj hb g6 (Aa g6);replace g7:=Aj hb g7 (Aa g7);replace g8:=Aj hb g8 (Aa g8);replace g9:=Aj hb g9 (Aa g9);replace g10:=Aj hb g10 (Aa g10);replace g11:=Aj hb g11 (Aa g11);replace g12:=Aj hb g12 (Aa g12);replace hK:=Dy hz hK (hb.mono (by omega));replace hs:wd.heap.size+3≤u5.heap.size:=Acp hs hb.size;clear hb
 go_wp2_with (refine AZ (by rfl) (by rfl) (heap_alloc_new u5 _) (by rfl) ?_;intro v5 g13 o13;refine Hid.out ?_)
 replace g2:=(o13.block _ (Ack (Aa g2))).trans ((Below.heap_alloc u5 _ _ (Aa g2)).trans g2);replace g3:=(o13.block _ (Ack (Aa g3))).trans ((Below.heap_alloc u5 _ _ (Aa g3)).trans g3);replace g4:=(o13.block _ (Ack (Aa g4))).trans ((Below.heap_alloc u5 _ _ (Aa g4)).trans g4);replace g5:=(o13.block _ (Ack (Aa g5))).trans ((Below.heap_alloc u5 _ _ (Aa g5)).trans g5);replace g6:=(o13.block _ (Ack (Aa g6))).trans ((Below.heap_alloc u5 _ _ (Aa g6)).trans g6);replace g7:=(o13.block _ (Ack (Aa g7))).trans ((Below.heap_alloc u5 _ _ (Aa g7)).trans g7);replace g8:=(o13.block _ (Ack (Aa g8))).trans ((Below.heap_alloc u5 _ _ (Aa g8)).trans g8);replace g9:=(o13.block _ (Ack (Aa g9))).trans ((Below.heap_alloc u5 _ _ (Aa g9)).trans g9);replace g10:=(o13.block _ (Ack (Aa g10))).trans ((Below.heap_alloc u5 _ _ (Aa g10)).trans g10);replace g11:=(o13.block _ (Ack (Aa g11))).trans ((Below.heap_alloc u5 _ _ (Aa g11)).trans g11);replace g12:=(o13.block _ (Ack (Aa g12))).trans ((Below.heap_alloc u5 _ _ (Aa g12)).trans g12);replace hK:=Dy hz hK (Below.trans ((Below.refl _ _).alloc (by omega) _) (Only.below (b:=u5.heap.size) (B:=wd.heap.size) o13 (by omega)));have hs5:wd.heap.size+3≤v5.heap.size:=by rw[o13.size];simp;omega
 clear o13;generalize hb13:u5.heap.size=b13 at *;have l13:=hs;clear hs hb13;have hs:=hs5;clear hs5;refine Hid.mk ?_;obtain⟨sm,hsm⟩:∃y,(da+cb)%P255=y:=⟨_,rfl⟩;have Nsm:N256 sm:=hsm▸N256.mod _;have Hsm:=Hid.mk hsm;clear hsm;obtain⟨rs,hrs⟩:∃y,(da-cb)%P255=y:=⟨_,rfl⟩;have Nrs:N256 rs:=hrs▸N256.mod _;have Hrs:=Hid.mk hrs;clear hrs;go_wp2_with fail;refine Ai (Eh wd) v5.heap.size
  [(wd.heap.size,AQ (Q4 x z v w) 136),((wd.heap.size+1),AQ (BA u) 22),((wd.heap.size+1+1),AQ (Q4 0 0 0 0) 136),(b5,AQ (BA a1) 22),(b6,AQ (BA b1) 22),(b7,AQ (BA c1) 22),(b8,AQ (BA d1) 22),(b9,AQ (BA aa) 22),(b10,AQ (BA bb) 22),(b11,AQ (BA da) 22),(b12,AQ (BA cb) 22),(b13,AQ (BA ee) 22)]
  [kv (.agg (BA da)),kv (.agg (BA cb)),ks 2 (BA da++BA cb) 22,kv (.agg (BA sm)),kv (.agg (BA da)),kv (.agg (BA cb)),kv (.agg (BA rs)),kp (BA 0) 22 9 (BA sm),kp (BA 0) 22 10 (BA rs),.val fun _=>True,.val fun _=>True]
  [.none,.none,.none,.none,.none,.none,.none,.none,.none,.own 7 1,.own 8 1]
  [some 57,some 58,some 59,some 60,some 61,some 62,some 63,some 14,some 15,none,none]
  [(11,.pointer (some ⟨b11,0,none⟩)),(12,.pointer (some ⟨b12,0,none⟩))]
  [[.base 9 0],[.base 10 0],[.slot 0,.slot 1],[.slot 2,.cont 2 0],[.base 9 0],[.base 10 0],[.slot 4,.slot 5],[],[],[.slot 7,.cont 7 0,.slot 3],[.slot 8,.cont 8 0,.slot 6]]
  [.slot 7,.cont 7 1,.slot 8,.cont 8 1,.base 0 0,.base 1 0,.base 2 0,.base 3 0,.base 4 0,.base 5 0,.base 6 0,.base 7 0,.base 8 0,.base 9 0,.base 10 0,.base 11 0] [57,58,59,60,61,62,63,14,15]
  rfl (by kernel_rfl) ⟨rfl,rfl,trivial⟩ (Cn hK) (Acg _) ⟨⟨Aa g2,Al g2⟩,⟨Aa g3,Al g3⟩,⟨Aa g4,Al g4⟩,⟨Aa g5,Al g5⟩,⟨Aa g6,Al g6⟩,⟨Aa g7,Al g7⟩,⟨Aa g8,Al g8⟩,⟨Aa g9,Al g9⟩,⟨Aa g10,Al g10⟩,⟨Aa g11,Al g11⟩,⟨Aa g12,Al g12⟩,⟨Aa g13,Al g13⟩,trivial⟩ ⟨⟨trivial,trivial,trivial,trivial,trivial,trivial,trivial,trivial,trivial,trivial,trivial,trivial⟩,⟨trivial,trivial,trivial,trivial,trivial,trivial,trivial,trivial,trivial,trivial,trivial⟩,⟨trivial,trivial,trivial,trivial,trivial,trivial,trivial,trivial,trivial,trivial⟩,⟨trivial,trivial,trivial,trivial,trivial,trivial,trivial,trivial,trivial⟩,⟨trivial,trivial,trivial,trivial,trivial,trivial,trivial,trivial⟩,⟨trivial,trivial,trivial,trivial,trivial,trivial,trivial⟩,⟨trivial,trivial,trivial,trivial,trivial,trivial⟩,⟨trivial,trivial,trivial,trivial,trivial⟩,⟨trivial,trivial,trivial,trivial⟩,⟨trivial,trivial,trivial⟩,⟨trivial,trivial⟩,trivial,trivial⟩ (Em hz (by omega) ⟨(by omega),(by omega),(by omega),(by omega),(by omega),(by omega),(by omega),(by omega),(by omega),(by omega),(by omega),(by omega),trivial⟩)
  ⟨
   sL fun f k=>sV (BZ rfl f.1 (Ak k.1)),
   sL fun f k=>sV (BZ rfl f.2.1 (Ak k.1)),
   sL fun _ k=>.inl ⟨trivial,fun K hK=>F5 rfl k.1 k.2.1 (fun v hg hb=>hK _ _ ⟨Ac hb,_,Acg _,rfl,Al hg⟩)⟩,
   (fun _ _ ww _ _ _ _ kn=>.inl ⟨trivial,fun K hK=>C8 IU rfl kn.1.1 (YS da cb _ ww Nda Ncb (F2 (Ak kn.2.1)) kn.1.2.2) (fun w' hb=>hK _ _ ⟨Ac hb,(congrArg (fun n=>Value.agg (BA n)) Hsm.out)⟩)⟩),
   sL fun f k=>sV (BZ rfl f.1 (Ak k.1)),
   sL fun f k=>sV (BZ rfl f.2.1 (Ak k.1)),
   (fun _ _ ww _ hS _ _ kn=>.inl ⟨trivial,fun K hK=>LG L7 rfl kn.1 kn.2.1 (K1 da cb ww hS.2 Nda.1 Nda.2 Ncb.1 Ncb.2) (fun w' hb=>hK _ _ ⟨Ac hb,(congrArg (fun n=>Value.agg (BA n)) Hrs.out)⟩)⟩),
   sL fun _ _=>.inl ⟨trivial,fun K hK=>Bi Cy rfl (fun w' hb hg=>hK _ _ ⟨Ac hb,_,Acg _,rfl,Al hg⟩)⟩,
   sL fun _ _=>.inl ⟨trivial,fun K hK=>Bi Cy rfl (fun w' hb hg=>hK _ _ ⟨Ac hb,_,Acg _,rfl,Al hg⟩)⟩,
   sL fun _ k=>.inl ⟨trivial,fun K hK=>Ca rfl k.1.1 k.2.2.1 (Ak k.2.1) (fun w2 hg ho=>hK _ _ ⟨Ag ho,Al hg,trivial⟩)⟩,
   sL fun _ k=>.inl ⟨trivial,fun K hK=>Ca rfl k.1.1 k.2.2.1 (Ak k.2.1) (fun w2 hg ho=>hK _ _ ⟨Ag ho,Al hg,trivial⟩)⟩,
   trivial⟩ ?_
 intro vs6 own v6 hK6 hs6 kn inj;clear inj;have e14:vs6 14=.pointer (some ⟨own 7,0,none⟩):=kn.1.1;have l14:v5.heap.size≤own 7:=kn.1.2.1;have g14:=Ak kn.2.1;have e15:vs6 15=.pointer (some ⟨own 8,0,none⟩):=kn.2.2.1.1;have l15:v5.heap.size≤own 8:=kn.2.2.1.2.1;have g15:=Ak kn.2.2.2.1;have g2_:=Ak kn.2.2.2.2.1;have g3_:=Ak kn.2.2.2.2.2.1;have g4_:=Ak kn.2.2.2.2.2.2.1;have g5_:=Ak kn.2.2.2.2.2.2.2.1;have g6_:=Ak kn.2.2.2.2.2.2.2.2.1;have g7_:=Ak kn.2.2.2.2.2.2.2.2.2.1;have g8_:=Ak kn.2.2.2.2.2.2.2.2.2.2.1;have g9_:=Ak kn.2.2.2.2.2.2.2.2.2.2.2.1;have g10_:=Ak kn.2.2.2.2.2.2.2.2.2.2.2.2.1;have g11_:=Ak kn.2.2.2.2.2.2.2.2.2.2.2.2.2.1;have g12_:=Ak kn.2.2.2.2.2.2.2.2.2.2.2.2.2.2.1;have g13_:=Ak kn.2.2.2.2.2.2.2.2.2.2.2.2.2.2.2.1;clear kn;generalize own 7=b14 at *;generalize own 8=b15 at *;simp only[Am,Act.put,Aci,Acj,Ach,e14,e15];replace l14:wd.heap.size+3≤b14:=by omega
 replace l15:wd.heap.size+3≤b15:=by omega
 replace hs:wd.heap.size+3≤v6.heap.size:=by omega
 clear e14 e15 g2 g3 g4 g5 g6 g7 g8 g9 g10 g11 g12 g13 hs6;have g2:=g2_;clear g2_;have g3:=g3_;clear g3_;have g4:=g4_;clear g4_;have g5:=g5_;clear g5_;have g6:=g6_;clear g6_;have g7:=g7_;clear g7_;have g8:=g8_;clear g8_;have g9:=g9_;clear g9_;have g10:=g10_;clear g10_;have g11:=g11_;clear g11_;have g12:=g12_;clear g12_;have g13:=g13_;clear g13_;clear hK;have hK:=hK6;clear hK6;clear own;obtain⟨nx,hnx⟩:∃y,aa*bb%P255=y:=⟨_,rfl⟩;have Nnx:N256 nx:=hnx▸N256.mod _;have Hnx:=Hid.mk hnx;clear hnx;obtain⟨mm,hmm⟩:∃y,121665%P255=y:=⟨_,rfl⟩;have Nmm:N256 mm:=hmm▸N256.mod _;have Hmm:=Hid.mk hmm;clear hmm;obtain⟨t1,ht1⟩:∃y,mm*ee%P255=y:=⟨_,rfl⟩;have Nt1:N256 t1:=ht1▸N256.mod _;have Ht1:=Hid.mk ht1;clear ht1;obtain⟨t2,ht2⟩:∃y,(aa+t1)%P255=y:=⟨_,rfl⟩;have Nt2:N256 t2:=ht2▸N256.mod _;have Ht2:=Hid.mk ht2;clear ht2;obtain⟨nz,hnz⟩:∃y,ee*t2%P255=y:=⟨_,rfl⟩;have Nnz:N256 nz:=hnz▸N256.mod _;have Hnz:=Hid.mk hnz;clear hnz;obtain⟨nv,hnv⟩:∃y,sm*sm%P255=y:=⟨_,rfl⟩;have Nnv:N256 nv:=hnv▸N256.mod _;have Hnv:=Hid.mk hnv;clear hnv;obtain⟨nw,hnw⟩:∃y,u*(rs*rs)%P255=y:=⟨_,rfl⟩;have Nnw:N256 nw:=hnw▸N256.mod _;have Hnw:=Hid.mk hnw;clear hnw;go_wp2_with fail;refine Ai (Eh wd) v6.heap.size
  [(wd.heap.size,AQ (Q4 x z v w) 136),((wd.heap.size+1),AQ (BA u) 22),((wd.heap.size+1+1),once (Q4 0 0 0 0) 136 24 (Q4 nx nz nv nw)),(b5,AQ (BA a1) 22),(b6,AQ (BA b1) 22),(b7,AQ (BA c1) 22),(b8,AQ (BA d1) 22),(b9,AQ (BA aa) 22),(b10,AQ (BA bb) 22),(b11,AQ (BA da) 22),(b12,AQ (BA cb) 22),(b13,AQ (BA ee) 22),(b14,AQ (BA sm) 22),(b15,AQ (BA rs) 22)]
  [kv (.agg (BA aa)),kv (.agg (BA bb)),ks 2 (BA aa++BA bb) 22,kv (.agg (BA nx)),kv (.agg (BA ee)),kv (.agg (BA aa)),kv (.agg (BA mm)),kv (.agg (BA ee)),ks 2 (BA mm++BA ee) 22,kv (.agg (BA t1)),ks 2 (BA aa++BA t1) 22,kv (.agg (BA t2)),ks 2 (BA ee++BA t2) 22,kv (.agg (BA nz)),kv (.agg (BA sm)),kv (.agg (BA sm)),ks 2 (BA sm++BA sm) 22,kv (.agg (BA nv)),kv (.agg (BA u)),kv (.agg (BA rs)),kv (.agg (BA rs)),ks 3 (BA u++BA rs++BA rs) 22,kv (.agg (BA nw)),kv (.agg (Q4 nx nz nv nw)),.val fun _=>True]
  [.none,.none,.none,.none,.none,.none,.none,.none,.none,.none,.none,.none,.none,.none,.none,.none,.none,.none,.none,.none,.none,.none,.none,.none,.base 2 1]
  [some 64,some 65,some 66,some 67,some 68,some 69,some 70,some 71,some 72,some 73,some 74,some 75,some 76,some 77,some 78,some 79,some 80,some 81,some 82,some 83,some 84,some 85,some 86,some 87,none]
  [(3,.pointer (some ⟨(wd.heap.size+1),0,none⟩)),(4,.pointer (some ⟨(wd.heap.size+1+1),0,none⟩)),(9,.pointer (some ⟨b9,0,none⟩)),(10,.pointer (some ⟨b10,0,none⟩)),(13,.pointer (some ⟨b13,0,none⟩)),(14,.pointer (some ⟨b14,0,none⟩)),(15,.pointer (some ⟨b15,0,none⟩))]
  [[.base 7 0],[.base 8 0],[.slot 0,.slot 1],[.slot 2,.cont 2 0],[.base 11 0],[.base 7 0],[],[.base 11 0],[.slot 6,.slot 7],[.slot 8,.cont 8 0],[.slot 5,.slot 9],[.slot 10,.cont 10 0],[.slot 4,.slot 11],[.slot 12,.cont 12 0],[.base 12 0],[.base 12 0],[.slot 14,.slot 15],[.slot 16,.cont 16 0],[.base 1 0],[.base 13 0],[.base 13 0],[.slot 18,.slot 19,.slot 20],[.slot 21,.cont 21 0],[.slot 3,.slot 13,.slot 17,.slot 22],[.base 2 0,.slot 23]]
  [.base 0 0,.base 1 0,.base 2 1,.base 3 0,.base 4 0,.base 5 0,.base 6 0,.base 7 0,.base 8 0,.base 9 0,.base 10 0,.base 11 0,.base 12 0,.base 13 0] [64,65,66,67,68,69,70,71,72,73,74,75,76,77,78,79,80,81,82,83,84,85,86,87]
  rfl (by kernel_rfl) ⟨rfl,rfl,rfl,rfl,rfl,rfl,rfl,trivial⟩ (Cn hK) (Acg _) ⟨⟨Aa g2,Al g2⟩,⟨Aa g3,Al g3⟩,⟨Aa g4,Al g4⟩,⟨Aa g5,Al g5⟩,⟨Aa g6,Al g6⟩,⟨Aa g7,Al g7⟩,⟨Aa g8,Al g8⟩,⟨Aa g9,Al g9⟩,⟨Aa g10,Al g10⟩,⟨Aa g11,Al g11⟩,⟨Aa g12,Al g12⟩,⟨Aa g13,Al g13⟩,⟨Aa g14,Al g14⟩,⟨Aa g15,Al g15⟩,trivial⟩ ⟨⟨trivial,(show (wd.heap.size:Nat)≠(wd.heap.size+1+1) from by omega),trivial,trivial,trivial,trivial,trivial,trivial,trivial,trivial,trivial,trivial,trivial,trivial⟩,⟨(show ((wd.heap.size+1):Nat)≠(wd.heap.size+1+1) from by omega),trivial,trivial,trivial,trivial,trivial,trivial,trivial,trivial,trivial,trivial,trivial,trivial⟩,⟨(show ((wd.heap.size+1+1):Nat)≠b5 from by omega),(show ((wd.heap.size+1+1):Nat)≠b6 from by omega),(show ((wd.heap.size+1+1):Nat)≠b7 from by omega),(show ((wd.heap.size+1+1):Nat)≠b8 from by omega),(show ((wd.heap.size+1+1):Nat)≠b9 from by omega),(show ((wd.heap.size+1+1):Nat)≠b10 from by omega),(show ((wd.heap.size+1+1):Nat)≠b11 from by omega),(show ((wd.heap.size+1+1):Nat)≠b12 from by omega),(show ((wd.heap.size+1+1):Nat)≠b13 from by omega),(show ((wd.heap.size+1+1):Nat)≠b14 from by omega),(show ((wd.heap.size+1+1):Nat)≠b15 from by omega),trivial⟩,⟨trivial,trivial,trivial,trivial,trivial,trivial,trivial,trivial,trivial,trivial,trivial⟩,⟨trivial,trivial,trivial,trivial,trivial,trivial,trivial,trivial,trivial,trivial⟩,⟨trivial,trivial,trivial,trivial,trivial,trivial,trivial,trivial,trivial⟩,⟨trivial,trivial,trivial,trivial,trivial,trivial,trivial,trivial⟩,⟨trivial,trivial,trivial,trivial,trivial,trivial,trivial⟩,⟨trivial,trivial,trivial,trivial,trivial,trivial⟩,⟨trivial,trivial,trivial,trivial,trivial⟩,⟨trivial,trivial,trivial,trivial⟩,⟨trivial,trivial,trivial⟩,⟨trivial,trivial⟩,trivial,trivial⟩ (Em hz (by omega) ⟨(by omega),(by omega),(by omega),(by omega),(by omega),(by omega),(by omega),(by omega),(by omega),(by omega),(by omega),(by omega),(by omega),(by omega),trivial⟩)
  ⟨
   sL fun f k=>sV (BZ rfl f.2.2.1 (Ak k.1)),
   sL fun f k=>sV (BZ rfl f.2.2.2.1 (Ak k.1)),
   sL fun _ k=>.inl ⟨trivial,fun K hK=>F5 rfl k.1 k.2.1 (fun v hg hb=>hK _ _ ⟨Ac hb,_,Acg _,rfl,Al hg⟩)⟩,
   (fun _ _ ww _ _ _ _ kn=>.inl ⟨trivial,fun K hK=>C8 Ds rfl kn.1.1 (NT aa bb _ ww Naa Nbb (F2 (Ak kn.2.1)) kn.1.2.2) (fun w' hb=>hK _ _ ⟨Ac hb,(congrArg (fun n=>Value.agg (BA n)) Hnx.out)⟩)⟩),
   sL fun f k=>sV (BZ rfl f.2.2.2.2.1 (Ak k.1)),
   sL fun f k=>sV (BZ rfl f.2.2.1 (Ak k.1)),
   (fun _ _ ww _ hS _ _ _=>.inl ⟨trivial,fun K hK=>C8 IX rfl rfl (JA 121665 ww hS.2 (by omega) (by omega)) (fun w' hb=>hK _ _ ⟨Ac hb,(congrArg (fun n=>Value.agg (BA n)) Hmm.out)⟩)⟩),
   sL fun f k=>sV (BZ rfl f.2.2.2.2.1 (Ak k.1)),
   sL fun _ k=>.inl ⟨trivial,fun K hK=>F5 rfl k.1 k.2.1 (fun v hg hb=>hK _ _ ⟨Ac hb,_,Acg _,rfl,Al hg⟩)⟩,
   (fun _ _ ww _ _ _ _ kn=>.inl ⟨trivial,fun K hK=>C8 Ds rfl kn.1.1 (NT mm ee _ ww Nmm Nee (F2 (Ak kn.2.1)) kn.1.2.2) (fun w' hb=>hK _ _ ⟨Ac hb,(congrArg (fun n=>Value.agg (BA n)) Ht1.out)⟩)⟩),
   sL fun _ k=>.inl ⟨trivial,fun K hK=>F5 rfl k.1 k.2.1 (fun v hg hb=>hK _ _ ⟨Ac hb,_,Acg _,rfl,Al hg⟩)⟩,
   (fun _ _ ww _ _ _ _ kn=>.inl ⟨trivial,fun K hK=>C8 IU rfl kn.1.1 (YS aa t1 _ ww Naa Nt1 (F2 (Ak kn.2.1)) kn.1.2.2) (fun w' hb=>hK _ _ ⟨Ac hb,(congrArg (fun n=>Value.agg (BA n)) Ht2.out)⟩)⟩),
   sL fun _ k=>.inl ⟨trivial,fun K hK=>F5 rfl k.1 k.2.1 (fun v hg hb=>hK _ _ ⟨Ac hb,_,Acg _,rfl,Al hg⟩)⟩,
   (fun _ _ ww _ _ _ _ kn=>.inl ⟨trivial,fun K hK=>C8 Ds rfl kn.1.1 (NT ee t2 _ ww Nee Nt2 (F2 (Ak kn.2.1)) kn.1.2.2) (fun w' hb=>hK _ _ ⟨Ac hb,(congrArg (fun n=>Value.agg (BA n)) Hnz.out)⟩)⟩),
   sL fun f k=>sV (BZ rfl f.2.2.2.2.2.1 (Ak k.1)),
   sL fun f k=>sV (BZ rfl f.2.2.2.2.2.1 (Ak k.1)),
   sL fun _ k=>.inl ⟨trivial,fun K hK=>F5 rfl k.1 k.2.1 (fun v hg hb=>hK _ _ ⟨Ac hb,_,Acg _,rfl,Al hg⟩)⟩,
   (fun _ _ ww _ _ _ _ kn=>.inl ⟨trivial,fun K hK=>C8 Ds rfl kn.1.1 (NT sm sm _ ww Nsm Nsm (F2 (Ak kn.2.1)) kn.1.2.2) (fun w' hb=>hK _ _ ⟨Ac hb,(congrArg (fun n=>Value.agg (BA n)) Hnv.out)⟩)⟩),
   sL fun f k=>sV (BZ rfl f.1 (Ak k.1)),
   sL fun f k=>sV (BZ rfl f.2.2.2.2.2.2.1 (Ak k.1)),
   sL fun f k=>sV (BZ rfl f.2.2.2.2.2.2.1 (Ak k.1)),
   sL fun _ k=>.inl ⟨trivial,fun K hK=>Ab7 rfl k.1 k.2.1 k.2.2.1 (fun v hg hb=>hK _ _ ⟨Ac hb,_,Acg _,rfl,Al hg⟩)⟩,
   (fun _ _ ww _ _ _ _ kn=>.inl ⟨trivial,fun K hK=>C8 Ds rfl kn.1.1 (AbZ u rs rs _ ww Nu Nrs Nrs (Aby (Ak kn.2.1)) kn.1.2.2) (fun w' hb=>hK _ _ ⟨Ac hb,(congrArg (fun n=>Value.agg (BA n)) Hnw.out)⟩)⟩),
   sL fun _ k=>sV (LI rfl k.1 k.2.1 k.2.2.1 k.2.2.2.1),
   sL fun f k=>.inl ⟨trivial,fun K hK=>JH rfl f.2.1 k.2.1 (Ak k.1) (AP _ _ _ _) (fun w2 hg ho=>hK _ _ ⟨⟨Ag ho,Al hg⟩,trivial⟩)⟩,
   trivial⟩ ?_
 intro vs7 own v7 hK7 hs7 kn inj;clear inj;have g2_:=Ak kn.1;have g3_:=Ak kn.2.1;have g4_:=Ak kn.2.2.1;have g5_:=Ak kn.2.2.2.1;have g6_:=Ak kn.2.2.2.2.1;have g7_:=Ak kn.2.2.2.2.2.1;have g8_:=Ak kn.2.2.2.2.2.2.1;have g9_:=Ak kn.2.2.2.2.2.2.2.1;have g10_:=Ak kn.2.2.2.2.2.2.2.2.1;have g11_:=Ak kn.2.2.2.2.2.2.2.2.2.1;have g12_:=Ak kn.2.2.2.2.2.2.2.2.2.2.1;have g13_:=Ak kn.2.2.2.2.2.2.2.2.2.2.2.1;have g14_:=Ak kn.2.2.2.2.2.2.2.2.2.2.2.2.1;have g15_:=Ak kn.2.2.2.2.2.2.2.2.2.2.2.2.2.1;clear kn;simp only[Am,Act.put,Aci,Acj,Ach];replace hs:wd.heap.size+3≤v7.heap.size:=by omega
 clear g2 g3 g4 g5 g6 g7 g8 g9 g10 g11 g12 g13 g14 g15 hs7;have g2:=g2_;clear g2_;have g3:=g3_;clear g3_;have g4:=g4_;clear g4_;have g5:=g5_;clear g5_;have g6:=g6_;clear g6_;have g7:=g7_;clear g7_;have g8:=g8_;clear g8_;have g9:=g9_;clear g9_;have g10:=g10_;clear g10_;have g11:=g11_;clear g11_;have g12:=g12_;clear g12_;have g13:=g13_;clear g13_;have g14:=g14_;clear g14_;have g15:=g15_;clear g15_;clear hK;have hK:=hK7;clear hK7;clear own;go_wp2;exact bodyPost_ret (v:=.agg (Q4 nx nz nv nw)) (results_cell_row rfl _ _ _ _ _ _ _ rfl g4 underlying136 rfl (by rw[AP];exact EV)) rfl
  ⟨⟨_,_,_,_,rfl,Nnx,Nnz,Nnv,Nnw,QF x z v w u a1 b1 c1 d1 aa bb ee da cb sm rs nx mm t1 t2 nz nv nw Ha1.out Hb1.out Hc1.out Hd1.out Haa.out Hbb.out Hda.out Hcb.out Hee.out Hsm.out Hrs.out Hnx.out Hmm.out Ht1.out Ht2.out Hnz.out Hnv.out Hnw.out⟩,hK.1⟩
theorem LJ(x y:Int)(h0:0≤x)(h1:x<256)(k0:0≤y)(k1:y<256):bits BinOp.xor IntKind.u8 x y=((x.toNat ^^^ y.toNat:Nat):Int):=by go_bits2
theorem Ud{m n:Nat}(h:m<256)(k:n<256):m ^^^ n<256:=Nat.xor_lt_two_pow (n:=8) h k
theorem Ue(x:Int)(h0:0≤x)(h1:x<256):bits BinOp.and IntKind.u8 255 x=x:=by go_bits2
theorem Zi(x:Int)(h0:0≤x)(h1:x<256):bits BinOp.and IntKind.u8 0 x=0:=by rw[u8_and _ _ (by omega) (by omega) h0 h1];simp
theorem Na(x:Int)(h0:0≤x)(h1:x<256):bits BinOp.and IntKind.u8 x 127=x%128:=by go_bits2
theorem Uf(x:Int)(h0:0≤x)(h1:x<256):bits BinOp.and IntKind.u8 x 248=x/8*8:=by go_bits2
theorem Xf:∀n:Nat,n<128→n ||| 64=n%64+64:=by decide +kernel
theorem Zj(x:Int)(h0:0≤x)(h1:x<128):bits BinOp.or IntKind.u8 x 64=x%64+64:=by
 rw[u8_or _ _ h0 (by omega) (by omega) (by omega)];have:=Xf x.toNat (by omega);show ((x.toNat ||| 64:Nat):Int)=_;rw[this];omega
theorem Ug(k:Int)(w:World)(hk:N256 k):Calls prog 99 #[.agg (BA k)] w fun e w'=>e=.returned (.agg (BA (Cx k)))∧Below w.heap.size w w':=by
 have HC:=Hid.mk (Pn k hk);clear hk;have h0:=Bq k 0;have h31:=Bq k 31;unfold BR at h0 h31;obtain⟨h00,h01⟩:=h0;obtain⟨h310,h311⟩:=h31;have c0:=BH k 0 (by omega);have c31:=BH k 31 (by omega);generalize byt k 0=x0 at *;generalize byt k 31=x31 at *;have e0:=Uf x0 h00 h01;have e1:=Na x31 h310 h311;have e2:=Zj (x31%128) (by omega) (by omega);rw[show x31%128%64=x31%64 by omega] at e2;go_enter func99,ntmps99
 go_wp2_with (first|(refine A7 rfl _ rfl w.heap.size ((BA k).setIfInBounds 0 (.int .u8 (x0/8*8)) |>.setIfInBounds 31 (.int .u8 (x31%64+64))) rfl (heap_alloc2_old w _ _) (by simp[Ah]) ?_;rw[HC.out])|(refine AZ (n:=Cx k) (by rfl) (by rfl) (heap_alloc2_new w _ _) (by rfl) ?_;intro v3 g3 o3))
 exact bodyPost_ret (v:=.agg (BA (Cx k))) (results_cell_row rfl _ _ _ _ _ _ _ rfl g3 underlying22 rfl (by rw[Ah];exact Bo)) rfl
  ⟨rfl,Below.trans (((Below.refl _ w).alloc (Acg _) _).alloc (by simp) _) (Only.below (b:=w.heap.size+1) (B:=w.heap.size) o3 (by omega))⟩
def bI(b:Bool):Int:=if b then 1 else 0
theorem Aa5(N:Int)(j:Nat)(h0:0≤N):bits BinOp.and IntKind.u8 (byt N ((254-j)/8)/2 ^ ((254-j)%8)) 1=bI (N.toNat.testBit (254-j)):=by
 have hb:=Bq N ((254-j)/8);unfold BR at hb;have hp:(0:Int)<2 ^ ((254-j)%8):=Int.pow_pos (by decide);have h1:0≤byt N ((254-j)/8)/2 ^ ((254-j)%8):=Int.ediv_nonneg hb.1 (by omega)
 have h2:byt N ((254-j)/8)/2 ^ ((254-j)%8)<256:=by
  have:=Int.ediv_le_self (2 ^ ((254-j)%8)) hb.1;omega
 rw[Ip _ h1 h2,NS N (254-j) h0,Nat.testBit_eq_decide_div_mod_eq];generalize N.toNat/2 ^ (254-j)=G;have hG:G%2=0∨G%2=1:=by omega
 rcases hG with hG | hG<;>simp[hG,bI]
theorem Uh(N:Int)(j:Nat)(w:World)(hN:0≤N)(hj:j<255):Calls prog 102 #[.agg (BA N),.int .i64 (254-(j:Int))] w fun e w'=>e=.returned (.int .u8 (bI (N.toNat.testBit (254-j))))∧Below w.heap.size w w':=by
 have HB:=Hid.mk (Aa5 N j hN);have cb:=BH N ((254-j)/8) (by omega);have hi1:(0:Int)≤254-(j:Int):=by omega
 have hq8:IntKind.i64.wrap ((254-(j:Int)).tdiv 8)=(((254-j)/8:Nat):Int):=by rw[IntKind.wrap_i64,Ac8 hi1];omega
 have hr8:(254-(j:Int)).tmod 8=(((254-j)%8:Nat):Int):=by rw[Acz hi1];omega
 obtain⟨q,hq⟩:∃q:Nat,(254-j)/8=q:=⟨_,rfl⟩;obtain⟨r,hr⟩:∃r:Nat,(254-j)%8=r:=⟨_,rfl⟩;have hq32:(q:Int)<32:=by omega
 have hr64:r<8:=by omega
 rw[hq] at hq8 cb;rw[hr] at hr8;rw[hq,hr] at HB;have hbq:=Bq N q;unfold BR at hbq;obtain⟨hbq0,hbq1⟩:=hbq;go_enter func102,ntmps102;go_wp2;rw[HB.out]
 go_ret
 exact⟨rfl,(Below.refl _ w).alloc (Acg _) _⟩
def mI(b:Bool):Int:=if b then 255 else 0
theorem Zk(b:Bool):IntKind.u8.wrap (-(bI b))=mI b:=by cases b<;>decide
theorem LK(b:Bool)(x y:Int)(h0:0≤x)(h1:x<256)(k0:0≤y)(k1:y<256):bits BinOp.xor IntKind.u8 x (bits BinOp.and IntKind.u8 (mI b) (bits BinOp.xor IntKind.u8 x y))=tb b x y:=by
 rw[LJ x y h0 h1 k0 k1];have hl:=Ud (m:=x.toNat) (n:=y.toNat) (by omega) (by omega);cases b
 ·simp only[mI,tb,Bool.false_eq_true,if_false]
  rw[Zi _ (by omega) (by omega),LJ x 0 h0 h1 (by omega) (by omega)];simp;omega
 ·simp only[mI,tb,if_true]
  rw[Ue _ (by omega) (by omega),LJ x _ h0 h1 (by omega) (by omega)];simp only[AcB];rw[←Nat.xor_assoc,Nat.xor_self,Nat.zero_xor];omega
theorem Pq(b:Bool)(x y:Int)(h0:0≤x)(h1:x<256)(k0:0≤y)(k1:y<256):bits BinOp.xor IntKind.u8 y (bits BinOp.and IntKind.u8 (mI b) (bits BinOp.xor IntKind.u8 x y))=tb b y x:=by
 rw[LJ x y h0 h1 k0 k1,Nat.xor_comm,←LJ y x k0 k1 h0 h1];exact LK b y x k0 k1 h0 h1
theorem A8{wd:World}{G:List (Nat×Cont)}{B:Nat}(hB:wd.heap.size≤B)(hG:GLow wd.heap.size G)(w w':World)(h:Below wd.heap.size wd w)(ht:Touch (fun k=>B≤k∨k∈G.map (·.1)) w w'):Below wd.heap.size wd w':=
 h.trans ⟨ht.os,ht.tape,ht.output,ht.size,fun k hk=>ht.block k (AcH hk h.size) (fun e=>e.elim (fun e=>by omega) (fun e=>by have:=hG.at k e;omega))⟩
theorem EB {P:Program} {fn:Func} {p q:Tmp} {ty ty':TypeId} (h:fn.results=#[.cell p ty,.cell q ty']) (tmps:Array Value) (w:World) (g g':Nat)
  (hp:tmps.getD p undef=.pointer (some ⟨g,0,none⟩)) (hq:tmps.getD q undef=.pointer (some ⟨g',0,none⟩)) {t t':TypeId} {fr fr':Nat×Nat} {d d':TypeDesc} (cs cs':Array Value) (hg:w.heap[g]?=some (.cells cs t fr)) (hg':w.heap[g']?=some (.cells cs' t' fr'))
  (hi:(P.info? ty).map (·.size)=some cs.size) (hi':(P.info? ty').map (·.size)=some cs'.size)
  (hu:P.underlying ty=some d) (hd:(match d with | .struct _ | .array _ _=>true | _=>false)=true)
  (hu':P.underlying ty'=some d') (hd':(match d' with | .struct _ | .array _ _=>true | _=>false)=true) :
  (results fn tmps).run P w=.ok (.tuple #[.agg cs,.agg cs']) w:=by
 have hp':tmps[p]?.getD undef=.pointer (some ⟨g,0,none⟩):=by simpa using hp
 have hq':tmps[q]?.getD undef=.pointer (some ⟨g',0,none⟩):=by simpa using hq
 simp[results,h,hp',hq',asAddr,run_loadVar_row w g t ty cs fr d hg hu hd hi,run_loadVar_row w g' t' ty' cs' fr' d' hg' hu' hd' hi']
theorem Aa6(b:Bool)(p q:Int)(j:Nat):tb b (byt p j) (byt q j)=byt (tb b p q) j:=by cases b<;>rfl
theorem Pr{cs:Array Value}{b:Bool}{p q:Int}{k:Nat}(hk:k<32)(hs:cs.size=32)(h:∀j,j<32→cs[j]?=some (.int .u8 (byt (if j<k then tb b p q else p) j))):∀j,j<32→(cs.setIfInBounds k (.int .u8 (tb b (byt p k) (byt q k))))[j]?=some (.int .u8 (byt (if j<k+1 then tb b p q else p) j)):=by
 intro j hj;rw[AcI]
 by_cases e:k=j
 ·subst e
  simp only[if_true,hs,hk,Aa6];rw[if_pos (by omega)]
 ·rw[if_neg e,h j hj]
  by_cases hl:j<k
  ·rw[if_pos hl,if_pos (by omega)]
  ·rw[if_neg hl,if_neg (by omega)]
theorem Ps(b:Bool)(p q:Int)(w:World):Calls prog 165 #[.int .u8 (bI b),.agg (BA p),.agg (BA q)] w fun e w'=>e=.returned (.tuple #[.agg (BA (tb b p q)),.agg (BA (tb b q p))])∧Below w.heap.size w w':=by
 have hmask:=Zk b;go_enter func165,ntmps165;go_wp2
 go_loopg [13] 32 (fun m i v=>∃(k:Nat) (cs ds:Array Value),Hid (m+k=32)∧i=.int .i64 k∧cs.size=32∧ds.size=32∧Hid (∀j,j<32→cs[j]?=some (.int .u8 (byt (if j<k then tb b p q else p) j)))∧Hid (∀j,j<32→ds[j]?=some (.int .u8 (byt (if j<k then tb b q p else q) j))) ∧
  v.heap[w.heap.size]?=some (.cells cs 22 (0,0))∧v.heap[w.heap.size+1]?=some (.cells ds 22 (0,0))∧v.heap[w.heap.size+1+1]?=some (.cells (BA 0) 22 (0,0))∧v.heap[w.heap.size+1+1+1]?=some (.cells (BA 0) 22 (0,0))∧Below w.heap.size w v)
 case atStart =>
  refine⟨0,BA p,BA q,Hid.mk rfl,rfl,Ah p,Ah q,Hid.mk (fun j hj=>by rw[if_neg (by omega)];exact BH p j hj),Hid.mk (fun j hj=>by rw[if_neg (by omega)];exact BH q j hj),?_,?_,?_,?_,?_⟩
  ·exact(Below.heap_alloc _ _ _ (by simp<;>omega)).trans (A6 w _ _ _)
  ·exact(Below.heap_alloc _ _ _ (by simp<;>omega)).trans (AB w _ _ _)
  ·exact(Below.heap_alloc _ _ _ (by simp<;>omega)).trans (AK w _ _ _)
  ·exact L6 w _ _ _ _
  ·repeat first | exact Below.refl _ _ | refine Below.alloc ?_ (by simp<;>omega) _
 case round =>
  obtain⟨k,cs,ds,HJ,rfl,sc,sd,HC,HD,g1,g2,g3,g4,hB⟩:=hrel;have hk32:k≤32:=by have:=HJ.out;omega
  by_cases hk:k<32
  ·have ca:=(cell_of_row wr w.heap.size k _ _ _ g1).trans (HC.out k hk)
   have cd:=(cell_of_row wr (w.heap.size+1) k _ _ _ g2).trans (HD.out k hk);rw[if_neg (by omega)] at ca cd;have fa:=frozen_of_row wr w.heap.size k _ _ g1;have fb:=frozen_of_row wr (w.heap.size+1) k _ _ g2;have NC:=Hid.mk (Pr hk sc HC.out);have ND:=Hid.mk (Pr hk sd HD.out);have hx:=Bq p k;have hy:=Bq q k;unfold BR at hx hy;have e1:=LK b (byt p k) (byt q k) hx.1 hx.2 hy.1 hy.2;have e2:=Pq b (byt p k) (byt q k) hx.1 hx.2 hy.1 hy.2;generalize byt p k=x at *;generalize byt q k=y at *;obtain⟨d,hd⟩:∃d,bits BinOp.and IntKind.u8 (mI b) (bits BinOp.xor IntKind.u8 x y)=d:=⟨_,rfl⟩;rw[hd] at e1 e2;go_wp2_with fail
   go_region
   go_wp2
   go_roundg (32-(k+1))
   case rel =>
    exact⟨k+1,cs.setIfInBounds k (.int .u8 (tb b x y)),ds.setIfInBounds k (.int .u8 (tb b y x)),Hid.mk (by omega),by go_num,by simp[sc],by simp[sd],NC,ND,
     (heap_setCell_other _ _ _ _ (by simp<;>omega)).trans (heap_setCell_same _ _ _ _ _ _ g1),heap_setCell_same _ _ _ _ _ _ ((heap_setCell_other _ _ _ _ (by simp<;>omega)).trans g2),
     (heap_setCell_other _ _ _ _ (by simp<;>omega)).trans ((heap_setCell_other _ _ _ _ (by simp<;>omega)).trans g3),(heap_setCell_other _ _ _ _ (by simp<;>omega)).trans ((heap_setCell_other _ _ _ _ (by simp<;>omega)).trans g4),
     Below.setCell (Below.setCell (Below.drew hB) (by simp<;>omega) _) (by simp<;>omega) _⟩
   case measure=>have:=HJ.out;omega
  ·have hk2:k=32:=by omega
   subst hk2;have ec:cs=BA (tb b p q):=Lt sc (fun j hj=>by rw[HC.out j hj,if_pos hj]);have ed:ds=BA (tb b q p):=Lt sd (fun j hj=>by rw[HD.out j hj,if_pos hj]);subst ec ed;clear HC HD sc sd;go_wp2_with fail;refine Ai (Below w.heap.size w) wr.heap.size
    [(w.heap.size,AQ (BA (tb b p q)) 22),((w.heap.size+1),AQ (BA (tb b q p)) 22),((w.heap.size+1+1),once (BA 0) 22 2 (BA (tb b p q))),((w.heap.size+1+1+1),once (BA 0) 22 3 (BA (tb b q p)))]
    [kv (.agg (BA (tb b p q))),kv (.agg (BA (tb b q p))),.val fun _=>True,.val fun _=>True]
    [.none,.none,.base 2 1,.base 3 1]
    [some 38,some 39,none,none]
    [(4,.pointer (some ⟨w.heap.size,0,none⟩)),(5,.pointer (some ⟨(w.heap.size+1),0,none⟩)),(6,.pointer (some ⟨(w.heap.size+1+1),0,none⟩)),(7,.pointer (some ⟨(w.heap.size+1+1+1),0,none⟩))]
    [[.base 0 0],[.base 1 0],[.base 2 0,.slot 0],[.base 3 0,.slot 1]]
    [.base 2 1,.base 3 1] [38,39]
    rfl (by kernel_rfl) ⟨rfl,rfl,rfl,rfl,trivial⟩ (Below.drew hB) (Acg _) ⟨⟨Aa g1,Al g1⟩,⟨Aa g2,Al g2⟩,⟨Aa g3,Al g3⟩,⟨Aa g4,Al g4⟩,trivial⟩ ⟨⟨trivial,(show (w.heap.size:Nat)≠(w.heap.size+1+1) from by omega),(show (w.heap.size:Nat)≠(w.heap.size+1+1+1) from by omega),trivial⟩,⟨(show ((w.heap.size+1):Nat)≠(w.heap.size+1+1) from by omega),(show ((w.heap.size+1):Nat)≠(w.heap.size+1+1+1) from by omega),trivial⟩,⟨(show ((w.heap.size+1+1):Nat)≠(w.heap.size+1+1+1) from by omega),trivial⟩,trivial,trivial⟩ (A8 hB.size ⟨by omega,by omega,by omega,by omega,trivial⟩)
    ⟨
     sL fun f k=>sV (BZ rfl f.1 (Ak k.1)),
     sL fun f k=>sV (BZ rfl f.2.1 (Ak k.1)),
     sL fun f k=>.inl ⟨trivial,fun K hK=>Ca rfl f.2.2.1 k.2.1 (Ak k.1) (fun w2 hg ho=>hK _ _ ⟨⟨Ag ho,Al hg⟩,trivial⟩)⟩,
     sL fun f k=>.inl ⟨trivial,fun K hK=>Ca rfl f.2.2.2.1 k.2.1 (Ak k.1) (fun w2 hg ho=>hK _ _ ⟨⟨Ag ho,Al hg⟩,trivial⟩)⟩,
     trivial⟩ ?_
   intro vs own v9 hB9 hs9 kn inj;have g6:=Ak kn.1;have g7:=Ak kn.2.1;simp only[Am,Act.put,Aci,Acj,Ach];go_wp2;exact bodyPost_ret (v:=.tuple #[.agg (BA (tb b p q)),.agg (BA (tb b q p))]) (EB rfl _ _ _ _ rfl rfl _ _ g6 g7 (by rw[Ah];exact Bo) (by rw[Ah];exact Bo) underlying22 rfl underlying22 rfl) rfl ⟨rfl,hB9⟩
theorem BE{b:Nat}{t:TypeId}:∀(vs:List Value) (o:Nat) (w:World) (C:Array Value),w.heap[b]?=some (.cells C t (0,0))→o+vs.length≤C.size →∃C':Array Value,(w.setCells b o vs).heap[b]?=some (.cells C' t (0,0))∧C'.size=C.size∧(∀j,j<vs.length→C'[o+j]?=vs[j]?)∧(∀j,j<o∨o+vs.length≤j→C'[j]?=C[j]?)∧Only b w (w.setCells b o vs)
 | [],_,w,C,hg,_=>⟨C,hg,rfl,fun j hj=>by simp at hj,fun _ _=>rfl,Only.refl b w⟩
 | x::vs,o,w,C,hg,hl=>by
  simp only[AcC] at hl;obtain⟨C',h1,h2,h3,h4,h5⟩:=BE vs (o+1) (w.setCell ⟨b,o,none⟩ x) (C.setIfInBounds o x) (heap_setCell_same w b o C t x hg) (by simp;omega);refine⟨C',h1,by rw[h2];simp,fun j hj=>?_,fun j hj=>?_,?_⟩
  ·cases j with
   | zero =>
    rw[Ac6,h4 o (.inl (by omega)),AcI];simp;omega
   | succ j =>
    simp only[AcC] at hj;have:=h3 j (by omega);rw[show o+1+j=o+(j+1) by omega] at this;rw[this];simp
  ·simp only[AcC] at hj
   rw[h4 j (by omega),AcI,if_neg (by omega)]
  ·have o1:=(Only.refl b w).setCell o x
   exact⟨h5.os.trans o1.os,h5.tape.trans o1.tape,h5.output.trans o1.output,h5.size.trans o1.size,fun k hk=>(h5.block k hk).trans (o1.block k hk)⟩
theorem Og{cs:Array Value}{x z v w:Int}(hs:cs.size=128)(h0:∀j,j<32→cs[j]?=(BA x)[j]?)(h1:∀j,j<32→cs[32+j]?=(BA z)[j]?)(h2:∀j,j<32→cs[64+j]?=(BA v)[j]?)(h3:∀j,j<32→cs[96+j]?=(BA w)[j]?):cs=Q4 x z v w:=by
 apply AcK;intro i
 by_cases a0:i<32
 ·rw[h0 i a0,Mn x z v w i a0]
 ·by_cases a1:i<64
  ·have:=h1 (i-32) (by omega)
   have e:=Ks x z v w (i-32) (by omega);rw[show 32+(i-32)=i by omega] at this e;rw[this,e]
  ·by_cases a2:i<96
   ·have:=h2 (i-64) (by omega)
    have e:=Mo x z v w (i-64) (by omega);rw[show 64+(i-64)=i by omega] at this e;rw[this,e]
   ·by_cases a3:i<128
    ·have:=h3 (i-96) (by omega)
     have e:=Mp x z v w (i-96) (by omega);rw[show 96+(i-96)=i by omega] at this e;rw[this,e]
    ·rw[Acv (by omega),Acv (by rw[AP];omega)]
theorem D2{w:World}{b o n:Nat}{C:Array Value}{t:TypeId}(hg:w.heap[b]?=some (.cells C t (0,0)))(h:o+n≤C.size):w.there b o n:=fun j hj=>by
 refine⟨?_,frozen_of_row w b (o+j) _ _ hg⟩;rw[cell_of_row w b (o+j) _ _ _ hg,Acx (by omega)];rfl
theorem RX{ops:Array Oper}{rest:List Oper}{d:Option Tmp}{X Y:Operand}{t:TypeId}{ps:String}{af:Array Edge}{a:Act}{wd:World}{Q:Exit→Act→World→Prop}{g o:Nat}{n:Int}{C:Array Value}{ty:TypeId}(hx:a.eval X=.pointer (some ⟨g,o,none⟩))(hy:a.eval Y=.agg (BA n))(hg:wd.heap[g]?=some (.cells C ty (0,0)))(ho:o+32≤C.size)(h:∀w2 C',w2.heap[g]?=some (.cells C' ty (0,0))→C'.size=C.size→(∀j,j<32→C'[o+j]?=(BA n)[j]?)→(∀j,j<o∨o+32≤j→C'[j]?=C[j]?)→Only g wd w2→wpList prog ops Q rest (a.put d undef) w2):wpList prog ops Q ({ dst:=d,op:=.store 22 X Y,type:=t,pos:=ps,after:=af,guard:=none }::rest) a wd:=by
 have hl:(BA n).toList.length=32:=by rw[AcE,Ah]
 obtain⟨C',h1,h2,h3,h4,h5⟩:=BE (b:=g) (BA n).toList o wd C hg (by omega);rw[hl] at h3 h4;exact wpList_store_mid rfl 22 X Y rfl g o (BA n) hx hy (D2 hg (by rw[Ah];exact ho)) (by rw[Ah];exact Bo) (N4 n)
  (h _ C' h1 h2 (fun j hj=>by rw[h3 j hj];simp) h4 h5)
theorem Ab8{ops:Array Oper}{rest:List Oper}{d:Option Tmp}{X Y:Operand}{t:TypeId}{ps:String}{af:Array Edge}{a:Act}{wd:World}{Q:Exit→Act→World→Prop}{g:Nat}{n x z v w:Int}{ty:TypeId}(hx:a.eval X=.pointer (some ⟨g,0,none⟩))(hy:a.eval Y=.agg (BA n))(hg:wd.heap[g]?=some (.cells (Q4 x z v w) ty (0,0)))(h:∀w2,w2.heap[g]?=some (.cells (Q4 n z v w) ty (0,0))→Only g wd w2→wpList prog ops Q rest (a.put d undef) w2):wpList prog ops Q ({ dst:=d,op:=.store 22 X Y,type:=t,pos:=ps,after:=af,guard:=none }::rest) a wd:=
 RX hx hy hg (by rw[AP];omega) (fun w2 C' g2 s2 hin hout o2=>h w2 (by
  have e:=Og (cs:=C') (by rw[s2,AP]) (fun j hj=>by have:=hin j hj;rwa [Acl] at this) (fun j hj=>by rw[hout _ (by omega)];exact Ks x z v w j hj) (fun j hj=>by rw[hout _ (by omega)];exact Mo x z v w j hj) (fun j hj=>by rw[hout _ (by omega)];exact Mp x z v w j hj);rw[e] at g2;exact g2) o2)
theorem Ab9{ops:Array Oper}{rest:List Oper}{d:Option Tmp}{X Y:Operand}{t:TypeId}{ps:String}{af:Array Edge}{a:Act}{wd:World}{Q:Exit→Act→World→Prop}{g:Nat}{n x z v w:Int}{ty:TypeId}(hx:a.eval X=.pointer (some ⟨g,32,none⟩))(hy:a.eval Y=.agg (BA n))(hg:wd.heap[g]?=some (.cells (Q4 x z v w) ty (0,0)))(h:∀w2,w2.heap[g]?=some (.cells (Q4 x n v w) ty (0,0))→Only g wd w2→wpList prog ops Q rest (a.put d undef) w2):wpList prog ops Q ({ dst:=d,op:=.store 22 X Y,type:=t,pos:=ps,after:=af,guard:=none }::rest) a wd:=
 RX hx hy hg (by rw[AP];omega) (fun w2 C' g2 s2 hin hout o2=>h w2 (by
  have e:=Og (cs:=C') (by rw[s2,AP]) (fun j hj=>by rw[hout _ (by omega)];exact Mn x z v w j hj) hin (fun j hj=>by rw[hout _ (by omega)];exact Mo x z v w j hj) (fun j hj=>by rw[hout _ (by omega)];exact Mp x z v w j hj);rw[e] at g2;exact g2) o2)
theorem AbA{ops:Array Oper}{rest:List Oper}{d:Option Tmp}{X Y:Operand}{t:TypeId}{ps:String}{af:Array Edge}{a:Act}{wd:World}{Q:Exit→Act→World→Prop}{g:Nat}{n x z v w:Int}{ty:TypeId}(hx:a.eval X=.pointer (some ⟨g,64,none⟩))(hy:a.eval Y=.agg (BA n))(hg:wd.heap[g]?=some (.cells (Q4 x z v w) ty (0,0)))(h:∀w2,w2.heap[g]?=some (.cells (Q4 x z n w) ty (0,0))→Only g wd w2→wpList prog ops Q rest (a.put d undef) w2):wpList prog ops Q ({ dst:=d,op:=.store 22 X Y,type:=t,pos:=ps,after:=af,guard:=none }::rest) a wd:=
 RX hx hy hg (by rw[AP];omega) (fun w2 C' g2 s2 hin hout o2=>h w2 (by
  have e:=Og (cs:=C') (by rw[s2,AP]) (fun j hj=>by rw[hout _ (by omega)];exact Mn x z v w j hj) (fun j hj=>by rw[hout _ (by omega)];exact Ks x z v w j hj) hin (fun j hj=>by rw[hout _ (by omega)];exact Mp x z v w j hj);rw[e] at g2;exact g2) o2)
theorem AbB{ops:Array Oper}{rest:List Oper}{d:Option Tmp}{X Y:Operand}{t:TypeId}{ps:String}{af:Array Edge}{a:Act}{wd:World}{Q:Exit→Act→World→Prop}{g:Nat}{n x z v w:Int}{ty:TypeId}(hx:a.eval X=.pointer (some ⟨g,96,none⟩))(hy:a.eval Y=.agg (BA n))(hg:wd.heap[g]?=some (.cells (Q4 x z v w) ty (0,0)))(h:∀w2,w2.heap[g]?=some (.cells (Q4 x z v n) ty (0,0))→Only g wd w2→wpList prog ops Q rest (a.put d undef) w2):wpList prog ops Q ({ dst:=d,op:=.store 22 X Y,type:=t,pos:=ps,after:=af,guard:=none }::rest) a wd:=
 RX hx hy hg (by rw[AP];omega) (fun w2 C' g2 s2 hin hout o2=>h w2 (by
  have e:=Og (cs:=C') (by rw[s2,AP]) (fun j hj=>by rw[hout _ (by omega)];exact Mn x z v w j hj) (fun j hj=>by rw[hout _ (by omega)];exact Ks x z v w j hj) (fun j hj=>by rw[hout _ (by omega)];exact Mo x z v w j hj) hin;rw[e] at g2;exact g2) o2)
theorem Pt(b:Bool)(x z v w:Int)(wd:World):Calls prog 134 #[.agg (Q4 x z v w),.int .u8 (bI b)] wd fun e w'=>e=.returned (.agg (Q4 (tb b x v) (tb b z w) (tb b v x) (tb b w z)))∧Below wd.heap.size wd w':=by
 have hzero:=Gb;go_enter func134,ntmps134
 go_wp2_with (first
  | (refine C7 rfl _ rfl wd.heap.size 0 x rfl (Cu (heap_alloc2_old wd _ _) (fun j hj=>by rw[Acl];exact Mn x z v w j hj)) ?_)
  | (refine C7 rfl _ rfl wd.heap.size 64 v rfl (Cu (heap_alloc2_old wd _ _) (Mo x z v w)) ?_))
 have g2:(((wd.alloc (.cells (Q4 x z v w) 136 (0,0))).alloc (.cells (Q4 0 0 0 0) 136 (0,0)))).heap[wd.heap.size]?=some (.cells (Q4 x z v w) 136 (0,0)):=heap_alloc2_old wd _ _;have g4:(((wd.alloc (.cells (Q4 x z v w) 136 (0,0))).alloc (.cells (Q4 0 0 0 0) 136 (0,0)))).heap[wd.heap.size+1]?=some (.cells (Q4 0 0 0 0) 136 (0,0)):=heap_alloc2_new wd _ _;have hB:Below wd.heap.size wd ((wd.alloc (.cells (Q4 x z v w) 136 (0,0))).alloc (.cells (Q4 0 0 0 0) 136 (0,0))):=by repeat first | exact Below.refl _ _ | refine Below.alloc ?_ (by simp<;>omega) _
 clear hzero;refine(Ps b x v _).mono ?_;rintro e v1 ⟨rfl,hb⟩;replace g2:=Aj hb g2 (Aa g2);replace g4:=Aj hb g4 (Aa g4);replace hB:=Below.trans hB (hb.mono hB.size);clear hb
 go_wp2_with (refine Ab8 (g:=wd.heap.size) (n:=tb b x v) (x:=x) (z:=z) (v:=v) (w:=w) (by rfl) (by rfl) g2 ?_;intro v2 g22 o2;refine Hid.out ?_)
 clear g2;have g2:=g22;clear g22;replace g4:=(o2.block _ (by omega)).trans g4;replace hB:=Below.trans hB (Only.below (b:=wd.heap.size) (B:=wd.heap.size) o2 (Acg _));clear o2;refine Hid.mk ?_
 go_wp2_with (refine AbA (g:=wd.heap.size) (n:=tb b v x) (x:=tb b x v) (z:=z) (v:=v) (w:=w) (by rfl) (by rfl) g2 ?_;intro v3 g22 o2;refine Hid.out ?_)
 clear g2;have g2:=g22;clear g22;replace g4:=(o2.block _ (by omega)).trans g4;replace hB:=Below.trans hB (Only.below (b:=wd.heap.size) (B:=wd.heap.size) o2 (Acg _));clear o2;refine Hid.mk ?_
 go_wp2_with (first
  | (refine C7 rfl _ rfl wd.heap.size 32 z rfl (Cu g2 (Ks _ z _ w)) ?_)
  | (refine C7 rfl _ rfl wd.heap.size 96 w rfl (Cu g2 (Mp _ z _ w)) ?_))
 refine(Ps b z w _).mono ?_;rintro e v4 ⟨rfl,hb⟩;replace g2:=Aj hb g2 (Aa g2);replace g4:=Aj hb g4 (Aa g4);replace hB:=Below.trans hB (hb.mono hB.size);clear hb
 go_wp2_with (refine Ab9 (g:=wd.heap.size) (n:=tb b z w) (x:=tb b x v) (z:=z) (v:=tb b v x) (w:=w) (by rfl) (by rfl) g2 ?_;intro v5 g22 o2;refine Hid.out ?_)
 clear g2;have g2:=g22;clear g22;replace g4:=(o2.block _ (by omega)).trans g4;replace hB:=Below.trans hB (Only.below (b:=wd.heap.size) (B:=wd.heap.size) o2 (Acg _));clear o2;refine Hid.mk ?_
 go_wp2_with (refine AbB (g:=wd.heap.size) (n:=tb b w z) (x:=tb b x v) (z:=tb b z w) (v:=tb b v x) (w:=w) (by rfl) (by rfl) g2 ?_;intro v6 g22 o2;refine Hid.out ?_)
 clear g2;have g2:=g22;clear g22;replace g4:=(o2.block _ (by omega)).trans g4;replace hB:=Below.trans hB (Only.below (b:=wd.heap.size) (B:=wd.heap.size) o2 (Acg _));clear o2;refine Hid.mk ?_
 go_wp2_with (first
  | (refine Xe rfl _ rfl wd.heap.size (tb b x v) (tb b z w) (tb b v x) (tb b w z) rfl g2 ?_)
  | (refine Xd (g:=wd.heap.size+1) (x:=tb b x v) (z:=tb b z w) (v:=tb b v x) (w:=tb b w z) (old:=Q4 0 0 0 0) (by rfl) (by rfl) g4 (AP 0 0 0 0) ?_;intro w3 g3 o3))
 exact bodyPost_ret (v:=.agg (Q4 (tb b x v) (tb b z w) (tb b v x) (tb b w z))) (results_cell_row rfl _ _ _ _ _ _ _ rfl g3 underlying136 rfl (by rw[AP];exact EV)) rfl
  ⟨rfl,Below.trans hB (Only.below (b:=wd.heap.size+1) (B:=wd.heap.size) o3 (by omega))⟩
end Go.Proofs.YthghcjepdhkfdaaGreatDoor.Fld
