/-
  Own text. Package noise: Begin and Accept, by their steps.
-/
import Derived.Test.YthghcjepdhkfdaaGreatDoorJB11
import Derived.Test.YthghcjepdhkfdaaGreatDoorJB5
import Derived.Test.YthghcjepdhkfdaaGreatDoorJB10
import Derived.Test.YthghcjepdhkfdaaGreatDoorJB1
import Derived.Test.YthghcjepdhkfdaaGreatDoorJB3
set_option maxHeartbeats 16000000
set_option maxRecDepth 100000
open Bool renaming and_eq_true→Acm
open Int renaming mul_le_mul_of_nonneg_right→AcT,pow_succ→Acr,tdiv_eq_ediv_of_nonneg→Ac8,tmod_eq_emod_of_nonneg→Acz
open List renaming map_cons→Acu,map_nil→Acq,map_toArray→Acs,setIfInBounds_toArray→Aci,set_cons_succ→Ach,set_cons_zero→Acj
open Nat renaming add_sub_cancel_left→Ac0,add_zero→Ac6,le_refl→Acg,le_trans→Acp,zero_add→Acl
namespace Go.Proofs.YthghcjepdhkfdaaGreatDoor
open Go.RowKit Go.Proofs
open Tryz
theorem Jj{T:Nat→Prop}{u v w:World}(h:Touch T u v)(k:Touch T v w):Touch T u w:=⟨k.os.trans h.os,k.tape.trans h.tape,k.output.trans h.output,Acp h.size k.size,fun q hq hn=>(k.block q (by have:=h.size;omega) hn).trans (h.block q hq hn)⟩
theorem A0(w:World)(o:Obj)(n:Nat)(h:w.heap.size=n):(w.alloc o).heap[n]?=some o:=by
 subst h;exact heap_alloc_new w o
theorem Ad{w:World}(o:Obj){k:Nat}{x:Obj}(h:w.heap[k]?=some x):(w.alloc o).heap[k]?=some x:=(Below.heap_alloc _ _ _ (Aa h)).trans h
def CAt(w:World)(b:Nat)(ty:TypeId)(v:Value):Prop:=w.heap[b]?=some (.cells #[v] ty (0,0))
section
variable {w w':World} {b:Nat} {ty:TypeId} {v:Value}
theorem CAt.lt(h:CAt w b ty v):b<w.heap.size:=Aa h
theorem CAt.block(h:CAt w b ty v)(e:w'.heap[b]?=w.heap[b]?):CAt w' b ty v:=e.trans h
theorem CAt.kept(h:CAt w b ty v)(hb:Below w.heap.size w w'):CAt w' b ty v:=h.block (hb.block b h.lt)
theorem CAt.only{g:Nat}(h:CAt w b ty v)(o:Only g w w')(hg:b≠g):CAt w' b ty v:=h.block (o.block b hg)
theorem CAt.at(h:CAt w b ty v):w.cell? ⟨b,0,none⟩=some v:=cell_of_row w b 0 _ _ _ h
theorem CAt.free(h:CAt w b ty v):w.frozen? ⟨b,0,none⟩=false:=frozen_of_row w b 0 _ _ h
theorem CAt.set(h:CAt w b ty v)(x:Value):CAt (w.setCell ⟨b,0,none⟩ x) b ty x:=by
 have h2:=heap_setCell_same w b 0 _ ty x h;unfold CAt
 simpa using h2
end
theorem Et{fn:Func}{p q r:Tmp}{ty ty':TypeId}(h:fn.results=#[.cell p ty,.cell q ty',.tmp r]){tmps:Array Value}{w:World}{g g' n n':Nat}{k':IntKind}{V:Nat→Value}{s':Nat→Int}{x:Value}(hA:Mq ty n)(hA':Da ty' n')(hg:SAt w g ty n V)(hg':ArrAt w g' k' ty' n' s')(hp:tmps.getD p undef=.pointer (some ⟨g,0,none⟩))(hq:tmps.getD q undef=.pointer (some ⟨g',0,none⟩))(hr:tmps.getD r undef=x):(results fn tmps).run prog w=.ok (.tuple #[.agg (SC n V),.agg (WA k' n' s'),x]) w:=by
 obtain⟨d,h1,h2,h3⟩:=hA;obtain⟨m',e',h1',h3'⟩:=hA';have hp':tmps[p]?.getD undef=.pointer (some ⟨g,0,none⟩):=by simpa using hp
 have hq':tmps[q]?.getD undef=.pointer (some ⟨g',0,none⟩):=by simpa using hq
 have hr':tmps[r]?.getD undef=x:=by simpa using hr
 have e1:=run_loadVar_row (P:=prog) w g ty ty (SC n V) (0,0) _ hg h1 (by cases d<;>first | rfl | exact h2) (by rw[CG];exact h3);have e2:=run_loadVar_row (P:=prog) w g' ty' ty' (WA k' n' s') (0,0) _ hg' h1' rfl (by rw[A5];exact h3');simp[results,h,hp',hq',hr',asAddr,e1,e2]
theorem Jk(args:Array Value)(w:World):(callFunc 35 args).run prog w=.ok (.enter 35 args) w:=by kernel_rfl
theorem XA(b0 b1 b2 b3 b4 b5 b6:Nat)(O:Nat→Int)(P:Nat→Int)(E:Nat→Int)(T:Nat→Int)(ix:Int)(MS:ByteArray)(V:Nat→Value)(u:World)(hE:Env u)(c0:ArrAt u b0 .u8 22 32 O)(c1:ArrAt u b1 .u8 22 32 P)(c2:ArrAt u b2 .u8 22 32 E)(c3:ArrAt u b3 .u8 26 12 T)(c4:CAt u b4 23 (.int .u32 ix))(c5:CAt u b5 9 (.string ⟨#[]⟩))(c6:SAt u b6 31 162 Bk)(h1V:∀i,(V i).oneCell'=true)(hne:b5≠b6)(hst:∀u,Env u→Calls prog 36 #[.agg (WA .u8 32 O),.agg (WA .u8 32 P),.agg (WA .u8 32 E),.agg (WA .u8 12 T),.int .u32 ix] u fun e w'=>e=.returned (.tuple #[.string MS,.agg (SC 162 V)])∧Below u.heap.size u w'):Calls prog 35 #[.pointer (some ⟨b0,0,none⟩),.pointer (some ⟨b1,0,none⟩),.pointer (some ⟨b2,0,none⟩),.pointer (some ⟨b3,0,none⟩),.pointer (some ⟨b4,0,none⟩),.pointer (some ⟨b5,0,none⟩),.pointer (some ⟨b6,0,none⟩)] u fun e w'=>e=.returned (.tuple #[])∧CAt w' b5 9 (.string MS)∧SAt w' b6 31 162 V∧Touch (fun x=>x=b5∨x=b6) u w':=by
 have touch_or0:∀{p q:World},Only b5 p q→Touch (fun x=>x=b5∨x=b6) p q:=fun o=>⟨o.os,o.tape,o.output,by rw[o.size];exact Acg _,fun k _ hn=>o.block k (fun h=>hn (by simp[h]))⟩
 have touch_or1:∀{p q:World},Only b6 p q→Touch (fun x=>x=b5∨x=b6) p q:=fun o=>⟨o.os,o.tape,o.output,by rw[o.size];exact Acg _,fun k _ hn=>o.block k (fun h=>hn (by simp[h]))⟩
 have e4:=c4.at;go_enter func35,ntmps35
 go_wp2_with (first|(refine Aq Af c0 (by rfl) ?_)|(refine Aq Af c1 (by rfl) ?_)|(refine Aq Af c2 (by rfl) ?_)|(refine Aq Ax c3 (by rfl) ?_))
 refine(hst _ hE).mono ?_;rintro x v1 ⟨rfl,hb⟩;replace c5:=c5.kept hb;replace c6:=c6.kept hb;have ht:Touch (fun x=>x=b5∨x=b6) u v1:=DK hb;clear hb;have s0:=c5.at;have z0:=c5.free;have d0:=Hid.mk (c5.set (.string MS));have ht0:Touch (fun x=>x=b5∨x=b6) u (v1.setCell ⟨b5,0,none⟩ (.string MS)):=Jj ht (touch_or0 only_set);replace c6:=c6.only (only_set (w:=v1) (g:=b5) (i:=0) (v:=.string MS)) (Ne.symm hne);replace ht:=ht0;clear ht0 c5
 go_wp2_with (refine En AV h1V c6 (by rfl) (by rfl) ?_;intro y1 d10 o1;refine Hid.out ?_)
 have d1:=Hid.mk d10;replace d0:=Hid.mk (d0.out.only o1 hne);replace ht:=Jj ht (touch_or1 o1);clear d10 o1;refine Hid.mk ?_;go_wp2_with fail;exact bodyPost_end (results_none rfl _ _ _) rfl ⟨rfl,d0.out,d1.out,ht⟩
theorem XB(b0 b1 b2 b3 b4 b5 b6:Nat)(O:Nat→Int)(P:Nat→Int)(E:Nat→Int)(T:Nat→Int)(ix:Int)(X:Int)(u:World)(hE:Env u)(c0:ArrAt u b0 .u8 22 32 O)(c1:ArrAt u b1 .u8 22 32 P)(c2:ArrAt u b2 .u8 22 32 E)(c3:ArrAt u b3 .u8 26 12 T)(c4:CAt u b4 23 (.int .u32 ix))(hst:∀u,Env u→Calls prog 36 #[.agg (WA .u8 32 O),.agg (WA .u8 32 P),.agg (WA .u8 32 E),.agg (WA .u8 12 T),.int .u32 ix] u fun e w'=>e=gup X∧Below u.heap.size u w'):Calls prog 35 #[.pointer (some ⟨b0,0,none⟩),.pointer (some ⟨b1,0,none⟩),.pointer (some ⟨b2,0,none⟩),.pointer (some ⟨b3,0,none⟩),.pointer (some ⟨b4,0,none⟩),.pointer (some ⟨b5,0,none⟩),.pointer (some ⟨b6,0,none⟩)] u fun e w'=>e=gup X∧Below u.heap.size u w':=by
 have e4:=c4.at;go_enter func35,ntmps35
 go_wp2_with (first|(refine Aq Af c0 (by rfl) ?_)|(refine Aq Af c1 (by rfl) ?_)|(refine Aq Af c2 (by rfl) ?_)|(refine Aq Ax c3 (by rfl) ?_))
 refine(hst _ hE).mono ?_;rintro x v1 ⟨rfl,hb⟩;exact⟨rfl,rfl,hb⟩
set_option linter.unusedVariables false in
theorem XC(O:Nat→Int)(P:Nat→Int)(E:Nat→Int)(T:Nat→Int)(ix:Int)(MS:ByteArray)(V:Nat→Value)(w:World)(hE:Env w)(h1V:∀i,(V i).oneCell'=true)(hst:∀u,Env u→Calls prog 36 #[.agg (WA .u8 32 O),.agg (WA .u8 32 P),.agg (WA .u8 32 E),.agg (WA .u8 12 T),.int .u32 ix] u fun e w'=>e=.returned (.tuple #[.string MS,.agg (SC 162 V)])∧Below u.heap.size u w'):Calls prog 9 #[.agg (WA .u8 32 O),.agg (WA .u8 32 P),.agg (WA .u8 32 E),.agg (WA .u8 12 T),.int .u32 ix] w fun e w'=>e=.returned (.tuple #[.string MS,.agg (SC 162 V),.int .i64 0])∧Below w.heap.size w w':=by
 obtain⟨W,hW⟩:∃W,W=((((((((w.alloc (.cells (WA .u8 32 O) 22)).alloc (.cells (WA .u8 32 P) 22)).alloc (.cells (WA .u8 32 E) 22)).alloc (.cells (WA .u8 12 T) 26)).alloc (.cells #[.int .u32 ix] 23)).alloc (.cells zeroCells31 31)).alloc (.cells #[.string ⟨#[]⟩] 9)).alloc (.cells zeroCells31 31)):=⟨_,rfl⟩;have hB:Below w.heap.size w W:=by rw[hW];exact((((((((Below.refl _ w).alloc (by simp) _).alloc (by simp) _).alloc (by simp;omega) _).alloc (by simp;omega) _).alloc (by simp;omega) _).alloc (by simp;omega) _).alloc (by simp;omega) _).alloc (by simp;omega) _
 have g0:ArrAt W w.heap.size .u8 22 32 O:=by rw[hW];exact Ad _ (Ad _ (Ad _ (Ad _ (Ad _ (Ad _ (Ad _ (A0 _ _ _ (by simp))))))))
 have g1:ArrAt W (w.heap.size+1) .u8 22 32 P:=by rw[hW];exact Ad _ (Ad _ (Ad _ (Ad _ (Ad _ (Ad _ (A0 _ _ _ (by simp)))))))
 have g2:ArrAt W (w.heap.size+1+1) .u8 22 32 E:=by rw[hW];exact Ad _ (Ad _ (Ad _ (Ad _ (Ad _ (A0 _ _ _ (by simp))))))
 have g3:ArrAt W (w.heap.size+1+1+1) .u8 26 12 T:=by rw[hW];exact Ad _ (Ad _ (Ad _ (Ad _ (A0 _ _ _ (by simp)))))
 have g4:CAt W (w.heap.size+1+1+1+1) 23 (.int .u32 ix):=by rw[hW];exact Ad _ (Ad _ (Ad _ (A0 _ _ _ (by simp))))
 have g5:SAt W (w.heap.size+1+1+1+1+1) 31 162 Bk:=by
  unfold SAt;rw[hW,←BU];exact Ad _ (Ad _ (A0 _ _ _ (by simp)))
 have g6:CAt W (w.heap.size+1+1+1+1+1+1) 9 (.string ⟨#[]⟩):=by rw[hW];exact Ad _ (A0 _ _ _ (by simp))
 have g7:SAt W (w.heap.size+1+1+1+1+1+1+1) 31 162 Bk:=by
  unfold SAt;rw[hW,←BU];exact A0 _ _ _ (by simp)
 replace hE:=hE.kept hB;have hss:W.heap.size=w.heap.size+1+1+1+1+1+1+1+1:=by rw[hW];simp
 have hAt:=Fk 35 #[.pointer (some ⟨w.heap.size,0,none⟩),.pointer (some ⟨(w.heap.size+1),0,none⟩),.pointer (some ⟨(w.heap.size+1+1),0,none⟩),.pointer (some ⟨(w.heap.size+1+1+1),0,none⟩),.pointer (some ⟨(w.heap.size+1+1+1+1),0,none⟩),.pointer (some ⟨(w.heap.size+1+1+1+1+1+1),0,none⟩),.pointer (some ⟨(w.heap.size+1+1+1+1+1+1+1),0,none⟩)] (fun x=>x=(w.heap.size+1+1+1+1+1+1)∨x=(w.heap.size+1+1+1+1+1+1+1)) (fun x v=>x=0∧CAt v (w.heap.size+1+1+1+1+1+1) 9 (.string MS)∧SAt v (w.heap.size+1+1+1+1+1+1+1) 31 162 V) W Jk (fun x hx=>by omega) (fun u hu=>by
  refine((XA w.heap.size (w.heap.size+1) (w.heap.size+1+1) (w.heap.size+1+1+1) (w.heap.size+1+1+1+1) (w.heap.size+1+1+1+1+1+1) (w.heap.size+1+1+1+1+1+1+1) O P E T ix MS V u (hE.kept hu) (g0.kept hu) (g1.kept hu) (g2.kept hu) (g3.kept hu) (g4.kept hu) (g6.kept hu) (g7.kept hu) h1V (by omega) hst).mono ?_);rintro e v ⟨rfl,p0,p1,ht⟩;exact⟨ht,0,.inl ⟨rfl,rfl⟩,rfl,p0,p1⟩)
 have hmf:∀(fn:Fn) (first cap:Array Value) (w:World),(Instr.makeFunc fn first cap).run prog w=.ok (.func fn first cap) w:=fun _ _ _ _=>rfl
 subst hW;go_enter func9,ntmps9;go_wp2_with fail;refine hAt.mono ?_;rintro e v0 ⟨x,vc,rfl,⟨hx,p0,p1⟩,tT,hb⟩;have hx':=hx.symm;clear hx;subst hx';clear hAt hmf;replace p0:=p0.block (hb.block (w.heap.size+1+1+1+1+1+1) (by omega));replace p1:=p1.block (hb.block (w.heap.size+1+1+1+1+1+1+1) (by omega));replace g5:=g5.block (tT.block (w.heap.size+1+1+1+1+1) g5.lt (by omega));replace hB:Below w.heap.size w v0:=⟨tT.os.trans hB.os,tT.tape.trans hB.tape,tT.output.trans hB.output,Acp hB.size tT.size,fun k hk=>(tT.block k (by have:=hB.size;omega) (by omega)).trans (hB.block k hk)⟩;clear tT hb hss g0 g1 g2 g3 g4 g6 g7 hE;go_wp2_with fail;have HL0:Hid (∀u,Touch (fun x=>x=(w.heap.size+1+1+1+1+1)) v0 u→CAt u (w.heap.size+1+1+1+1+1+1) 9 (.string MS)):=Hid.mk (fun u hu=>p0.block (hu.block (w.heap.size+1+1+1+1+1+1) p0.lt (by omega)));have HL1:Hid (∀u,Touch (fun x=>x=(w.heap.size+1+1+1+1+1)) v0 u→SAt u (w.heap.size+1+1+1+1+1+1+1) 31 162 V):=Hid.mk (fun u hu=>p1.block (hu.block (w.heap.size+1+1+1+1+1+1+1) p1.lt (by omega)));refine Ai (Touch (fun x=>x=(w.heap.size+1+1+1+1+1)) v0) v0.heap.size
   [((w.heap.size+1+1+1+1+1),once (SC 162 Bk) 31 4 (SC 162 V))]
   [kv (.string MS),kv (.agg (SC 162 V)),kv (.int .i64 0),kv (.string MS),.val fun _=>True,kv (.int .i64 0)]
   [.none,.none,.none,.none,.base 0 1]
   [some 18,some 19,some 20,some 10,none,some 12]
   [(13,.pointer (some ⟨(w.heap.size+1+1+1+1+1+1),0,none⟩)),(14,.pointer (some ⟨(w.heap.size+1+1+1+1+1+1+1),0,none⟩)),(15,.int .i64 0),(11,.pointer (some ⟨(w.heap.size+1+1+1+1+1),0,none⟩))]
   [[],[],[],[.slot 0],[.slot 1,.base 0 0],[.slot 2]]
   [.base 0 1,.slot 3,.slot 5] [18,19,20,10,12]
   rfl (by kernel_rfl) ⟨rfl,rfl,rfl,rfl,trivial⟩ (DK (Below.refl _ v0).drew) (Acg _) ⟨⟨g5.lt,Al g5⟩,trivial⟩ ⟨trivial,trivial⟩ (GP (fun k hk=>by simpa using hk))
   ⟨
    (fun _ _ ww _ hS _ fr _=>sV (At rfl fr.1 (I5 (HL0.out ww hS).at))),
    (fun _ _ ww _ hS _ fr _=>sV (Es rfl AV (HL1.out ww hS) fr.2.1)),
    sL fun f _=>sV (Ab rfl f.2.2.1),
    sL fun _ k=>sV (Av rfl k.1),
    sL fun f k=>.inl ⟨trivial,fun K hK=>CH rfl AV h1V f.2.2.2.1 k.1 (Ak k.2.1) (fun w2 hg ho=>hK _ _ ⟨⟨Ag ho,Al hg⟩,trivial⟩)⟩,
    sL fun _ k=>sV (Av rfl k.1),
    trivial⟩ ?_
 intro vs own v9 hT1 hsz kn inj;clear inj hsz;have q0:SAt v9 (w.heap.size+1+1+1+1+1) 31 162 V:=Ak kn.1;have e10:vs 10=_:=kn.2.1;have e12:vs 12=_:=kn.2.2.1;clear kn HL0 HL1;replace hB:Below w.heap.size w v9:=⟨hT1.os.trans hB.os,hT1.tape.trans hB.tape,hT1.output.trans hB.output,Acp hB.size hT1.size,fun k hk=>(hT1.block k (by have:=hB.size;omega) (by omega)).trans (hB.block k hk)⟩;simp only[Am,Act.put,Aci,Acj,Ach,e10,e12];go_wp2_with fail;exact bodyPost_ret (v:=.tuple #[.string MS,.agg (SC 162 V),.int .i64 0]) (IZ results9 AV q0 (by rfl) (by rfl) (by rfl)) rfl ⟨rfl,hB⟩
set_option linter.unusedVariables false in
theorem Md(O:Nat→Int)(P:Nat→Int)(E:Nat→Int)(T:Nat→Int)(ix:Int)(X:Int)(w:World)(hE:Env w)(hst:∀u,Env u→Calls prog 36 #[.agg (WA .u8 32 O),.agg (WA .u8 32 P),.agg (WA .u8 32 E),.agg (WA .u8 12 T),.int .u32 ix] u fun e w'=>e=gup X∧Below u.heap.size u w'):Calls prog 9 #[.agg (WA .u8 32 O),.agg (WA .u8 32 P),.agg (WA .u8 32 E),.agg (WA .u8 12 T),.int .u32 ix] w fun e w'=>e=.returned (.tuple #[.string ⟨#[]⟩,.agg (SC 162 Bk),.int .i64 X])∧Below w.heap.size w w':=by
 obtain⟨W,hW⟩:∃W,W=((((((((w.alloc (.cells (WA .u8 32 O) 22)).alloc (.cells (WA .u8 32 P) 22)).alloc (.cells (WA .u8 32 E) 22)).alloc (.cells (WA .u8 12 T) 26)).alloc (.cells #[.int .u32 ix] 23)).alloc (.cells zeroCells31 31)).alloc (.cells #[.string ⟨#[]⟩] 9)).alloc (.cells zeroCells31 31)):=⟨_,rfl⟩;have hB:Below w.heap.size w W:=by rw[hW];exact((((((((Below.refl _ w).alloc (by simp) _).alloc (by simp) _).alloc (by simp;omega) _).alloc (by simp;omega) _).alloc (by simp;omega) _).alloc (by simp;omega) _).alloc (by simp;omega) _).alloc (by simp;omega) _
 have g0:ArrAt W w.heap.size .u8 22 32 O:=by rw[hW];exact Ad _ (Ad _ (Ad _ (Ad _ (Ad _ (Ad _ (Ad _ (A0 _ _ _ (by simp))))))))
 have g1:ArrAt W (w.heap.size+1) .u8 22 32 P:=by rw[hW];exact Ad _ (Ad _ (Ad _ (Ad _ (Ad _ (Ad _ (A0 _ _ _ (by simp)))))))
 have g2:ArrAt W (w.heap.size+1+1) .u8 22 32 E:=by rw[hW];exact Ad _ (Ad _ (Ad _ (Ad _ (Ad _ (A0 _ _ _ (by simp))))))
 have g3:ArrAt W (w.heap.size+1+1+1) .u8 26 12 T:=by rw[hW];exact Ad _ (Ad _ (Ad _ (Ad _ (A0 _ _ _ (by simp)))))
 have g4:CAt W (w.heap.size+1+1+1+1) 23 (.int .u32 ix):=by rw[hW];exact Ad _ (Ad _ (Ad _ (A0 _ _ _ (by simp))))
 have g5:SAt W (w.heap.size+1+1+1+1+1) 31 162 Bk:=by
  unfold SAt;rw[hW,←BU];exact Ad _ (Ad _ (A0 _ _ _ (by simp)))
 have g6:CAt W (w.heap.size+1+1+1+1+1+1) 9 (.string ⟨#[]⟩):=by rw[hW];exact Ad _ (A0 _ _ _ (by simp))
 have g7:SAt W (w.heap.size+1+1+1+1+1+1+1) 31 162 Bk:=by
  unfold SAt;rw[hW,←BU];exact A0 _ _ _ (by simp)
 replace hE:=hE.kept hB;have hss:W.heap.size=w.heap.size+1+1+1+1+1+1+1+1:=by rw[hW];simp
 have hAt:=Fk 35 #[.pointer (some ⟨w.heap.size,0,none⟩),.pointer (some ⟨(w.heap.size+1),0,none⟩),.pointer (some ⟨(w.heap.size+1+1),0,none⟩),.pointer (some ⟨(w.heap.size+1+1+1),0,none⟩),.pointer (some ⟨(w.heap.size+1+1+1+1),0,none⟩),.pointer (some ⟨(w.heap.size+1+1+1+1+1+1),0,none⟩),.pointer (some ⟨(w.heap.size+1+1+1+1+1+1+1),0,none⟩)] (fun x=>x=(w.heap.size+1+1+1+1+1+1)∨x=(w.heap.size+1+1+1+1+1+1+1)) (fun x v=>x=X∧CAt v (w.heap.size+1+1+1+1+1+1) 9 (.string ⟨#[]⟩)∧SAt v (w.heap.size+1+1+1+1+1+1+1) 31 162 Bk) W Jk (fun x hx=>by omega) (fun u hu=>by
  refine((XB w.heap.size (w.heap.size+1) (w.heap.size+1+1) (w.heap.size+1+1+1) (w.heap.size+1+1+1+1) (w.heap.size+1+1+1+1+1+1) (w.heap.size+1+1+1+1+1+1+1) O P E T ix X u (hE.kept hu) (g0.kept hu) (g1.kept hu) (g2.kept hu) (g3.kept hu) (g4.kept hu) hst).mono ?_);rintro e v ⟨rfl,hb⟩;exact⟨DK hb,X,.inr rfl,rfl,(g6.kept hu).kept hb,(g7.kept hu).kept hb⟩)
 have hmf:∀(fn:Fn) (first cap:Array Value) (w:World),(Instr.makeFunc fn first cap).run prog w=.ok (.func fn first cap) w:=fun _ _ _ _=>rfl
 subst hW;go_enter func9,ntmps9;go_wp2_with fail;refine hAt.mono ?_;rintro e v0 ⟨x,vc,rfl,⟨hx,p0,p1⟩,tT,hb⟩;have hx':=hx.symm;clear hx;subst hx';clear hAt hmf;replace p0:=p0.block (hb.block (w.heap.size+1+1+1+1+1+1) (by omega));replace p1:=p1.block (hb.block (w.heap.size+1+1+1+1+1+1+1) (by omega));replace g5:=g5.block (tT.block (w.heap.size+1+1+1+1+1) g5.lt (by omega));replace hB:Below w.heap.size w v0:=⟨tT.os.trans hB.os,tT.tape.trans hB.tape,tT.output.trans hB.output,Acp hB.size tT.size,fun k hk=>(tT.block k (by have:=hB.size;omega) (by omega)).trans (hB.block k hk)⟩;clear tT hb hss g0 g1 g2 g3 g4 g6 g7 hE;go_wp2_with fail;have HL0:Hid (∀u,Touch (fun x=>x=(w.heap.size+1+1+1+1+1)) v0 u→CAt u (w.heap.size+1+1+1+1+1+1) 9 (.string ⟨#[]⟩)):=Hid.mk (fun u hu=>p0.block (hu.block (w.heap.size+1+1+1+1+1+1) p0.lt (by omega)));have HL1:Hid (∀u,Touch (fun x=>x=(w.heap.size+1+1+1+1+1)) v0 u→SAt u (w.heap.size+1+1+1+1+1+1+1) 31 162 Bk):=Hid.mk (fun u hu=>p1.block (hu.block (w.heap.size+1+1+1+1+1+1+1) p1.lt (by omega)));refine Ai (Touch (fun x=>x=(w.heap.size+1+1+1+1+1)) v0) v0.heap.size
   [((w.heap.size+1+1+1+1+1),once (SC 162 Bk) 31 4 (SC 162 Bk))]
   [kv (.string ⟨#[]⟩),kv (.agg (SC 162 Bk)),kv (.int .i64 X),kv (.string ⟨#[]⟩),.val fun _=>True,kv (.int .i64 X)]
   [.none,.none,.none,.none,.base 0 1]
   [some 18,some 19,some 20,some 10,none,some 12]
   [(13,.pointer (some ⟨(w.heap.size+1+1+1+1+1+1),0,none⟩)),(14,.pointer (some ⟨(w.heap.size+1+1+1+1+1+1+1),0,none⟩)),(15,.int .i64 X),(11,.pointer (some ⟨(w.heap.size+1+1+1+1+1),0,none⟩))]
   [[],[],[],[.slot 0],[.slot 1,.base 0 0],[.slot 2]]
   [.base 0 1,.slot 3,.slot 5] [18,19,20,10,12]
   rfl (by kernel_rfl) ⟨rfl,rfl,rfl,rfl,trivial⟩ (DK (Below.refl _ v0).drew) (Acg _) ⟨⟨g5.lt,Al g5⟩,trivial⟩ ⟨trivial,trivial⟩ (GP (fun k hk=>by simpa using hk))
   ⟨
    (fun _ _ ww _ hS _ fr _=>sV (At rfl fr.1 (I5 (HL0.out ww hS).at))),
    (fun _ _ ww _ hS _ fr _=>sV (Es rfl AV (HL1.out ww hS) fr.2.1)),
    sL fun f _=>sV (Ab rfl f.2.2.1),
    sL fun _ k=>sV (Av rfl k.1),
    sL fun f k=>.inl ⟨trivial,fun K hK=>CH rfl AV (Bu _ _ _ _ _ _ _) f.2.2.2.1 k.1 (Ak k.2.1) (fun w2 hg ho=>hK _ _ ⟨⟨Ag ho,Al hg⟩,trivial⟩)⟩,
    sL fun _ k=>sV (Av rfl k.1),
    trivial⟩ ?_
 intro vs own v9 hT1 hsz kn inj;clear inj hsz;have q0:SAt v9 (w.heap.size+1+1+1+1+1) 31 162 Bk:=Ak kn.1;have e10:vs 10=_:=kn.2.1;have e12:vs 12=_:=kn.2.2.1;clear kn HL0 HL1;replace hB:Below w.heap.size w v9:=⟨hT1.os.trans hB.os,hT1.tape.trans hB.tape,hT1.output.trans hB.output,Acp hB.size hT1.size,fun k hk=>(hT1.block k (by have:=hB.size;omega) (by omega)).trans (hB.block k hk)⟩;simp only[Am,Act.put,Aci,Acj,Ach,e10,e12];go_wp2_with fail;exact bodyPost_ret (v:=.tuple #[.string ⟨#[]⟩,.agg (SC 162 Bk),.int .i64 X]) (IZ results9 AV q0 (by rfl) (by rfl) (by rfl)) rfl ⟨rfl,hB⟩
theorem H7(args:Array Value)(w:World):(callFunc 45 args).run prog w=.ok (.enter 45 args) w:=by kernel_rfl
theorem Uu(b0 b1 b2 b3:Nat)(O:Nat→Int)(m:ByteArray)(V:Nat→Value)(T:Nat→Int)(u:World)(hE:Env u)(c0:ArrAt u b0 .u8 22 32 O)(c1:CAt u b1 9 (.string m))(c2:SAt u b2 31 162 Bk)(c3:ArrAt u b3 .u8 26 12 (fun _=>0))(h1V:∀i,(V i).oneCell'=true)(hne:b2≠b3)(hst:∀u,Env u→Calls prog 46 #[.agg (WA .u8 32 O),.string m] u fun e w'=>e=.returned (.tuple #[.agg (SC 162 V),.agg (WA .u8 12 T)])∧Below u.heap.size u w'):Calls prog 45 #[.pointer (some ⟨b0,0,none⟩),.pointer (some ⟨b1,0,none⟩),.pointer (some ⟨b2,0,none⟩),.pointer (some ⟨b3,0,none⟩)] u fun e w'=>e=.returned (.tuple #[])∧SAt w' b2 31 162 V∧ArrAt w' b3 .u8 26 12 T∧Touch (fun x=>x=b2∨x=b3) u w':=by
 have touch_or0:∀{p q:World},Only b2 p q→Touch (fun x=>x=b2∨x=b3) p q:=fun o=>⟨o.os,o.tape,o.output,by rw[o.size];exact Acg _,fun k _ hn=>o.block k (fun h=>hn (by simp[h]))⟩
 have touch_or1:∀{p q:World},Only b3 p q→Touch (fun x=>x=b2∨x=b3) p q:=fun o=>⟨o.os,o.tape,o.output,by rw[o.size];exact Acg _,fun k _ hn=>o.block k (fun h=>hn (by simp[h]))⟩
 have e1:=c1.at;go_enter func45,ntmps45
 go_wp2_with (first|(refine Aq Af c0 (by rfl) ?_))
 refine(hst _ hE).mono ?_;rintro x v1 ⟨rfl,hb⟩;replace c2:=c2.kept hb;replace c3:=c3.kept hb;have ht:Touch (fun x=>x=b2∨x=b3) u v1:=DK hb;clear hb
 go_wp2_with (refine En AV h1V c2 (by rfl) (by rfl) ?_;intro y0 d00 o0;refine Hid.out ?_)
 have d0:=Hid.mk d00;replace c3:=c3.only o0 (Ne.symm hne);replace ht:=Jj ht (touch_or0 o0);clear d00 o0;refine Hid.mk ?_
 go_wp2_with (refine A1 Ax c3 (by rfl) (by rfl) ?_;intro y1 d10 o1;refine Hid.out ?_)
 have d1:=Hid.mk d10;replace d0:=Hid.mk (d0.out.only o1 hne);replace ht:=Jj ht (touch_or1 o1);clear d10 o1;refine Hid.mk ?_;go_wp2_with fail;exact bodyPost_end (results_none rfl _ _ _) rfl ⟨rfl,d0.out,d1.out,ht⟩
theorem Uv(b0 b1 b2 b3:Nat)(O:Nat→Int)(m:ByteArray)(X:Int)(u:World)(hE:Env u)(c0:ArrAt u b0 .u8 22 32 O)(c1:CAt u b1 9 (.string m))(hst:∀u,Env u→Calls prog 46 #[.agg (WA .u8 32 O),.string m] u fun e w'=>e=gup X∧Below u.heap.size u w'):Calls prog 45 #[.pointer (some ⟨b0,0,none⟩),.pointer (some ⟨b1,0,none⟩),.pointer (some ⟨b2,0,none⟩),.pointer (some ⟨b3,0,none⟩)] u fun e w'=>e=gup X∧Below u.heap.size u w':=by
 have e1:=c1.at;go_enter func45,ntmps45
 go_wp2_with (first|(refine Aq Af c0 (by rfl) ?_))
 refine(hst _ hE).mono ?_;rintro x v1 ⟨rfl,hb⟩;exact⟨rfl,rfl,hb⟩
set_option linter.unusedVariables false in
theorem Uw(O:Nat→Int)(m:ByteArray)(V:Nat→Value)(T:Nat→Int)(w:World)(hE:Env w)(h1V:∀i,(V i).oneCell'=true)(hst:∀u,Env u→Calls prog 46 #[.agg (WA .u8 32 O),.string m] u fun e w'=>e=.returned (.tuple #[.agg (SC 162 V),.agg (WA .u8 12 T)])∧Below u.heap.size u w'):Calls prog 11 #[.agg (WA .u8 32 O),.string m] w fun e w'=>e=.returned (.tuple #[.agg (SC 162 V),.agg (WA .u8 12 T),.int .i64 0])∧Below w.heap.size w w':=by
 obtain⟨W,hW⟩:∃W,W=((((((w.alloc (.cells (WA .u8 32 O) 22)).alloc (.cells #[.string m] 9)).alloc (.cells zeroCells31 31)).alloc (.cells (WA .u8 12 (fun _=>0)) 26)).alloc (.cells zeroCells31 31)).alloc (.cells (WA .u8 12 (fun _=>0)) 26)):=⟨_,rfl⟩;have hB:Below w.heap.size w W:=by rw[hW];exact((((((Below.refl _ w).alloc (by simp) _).alloc (by simp) _).alloc (by simp;omega) _).alloc (by simp;omega) _).alloc (by simp;omega) _).alloc (by simp;omega) _
 have g0:ArrAt W w.heap.size .u8 22 32 O:=by rw[hW];exact Ad _ (Ad _ (Ad _ (Ad _ (Ad _ (A0 _ _ _ (by simp))))))
 have g1:CAt W (w.heap.size+1) 9 (.string m):=by rw[hW];exact Ad _ (Ad _ (Ad _ (Ad _ (A0 _ _ _ (by simp)))))
 have g2:SAt W (w.heap.size+1+1) 31 162 Bk:=by
  unfold SAt;rw[hW,←BU];exact Ad _ (Ad _ (Ad _ (A0 _ _ _ (by simp))))
 have g3:ArrAt W (w.heap.size+1+1+1) .u8 26 12 (fun _=>0):=by rw[hW];exact Ad _ (Ad _ (A0 _ _ _ (by simp)))
 have g4:SAt W (w.heap.size+1+1+1+1) 31 162 Bk:=by
  unfold SAt;rw[hW,←BU];exact Ad _ (A0 _ _ _ (by simp))
 have g5:ArrAt W (w.heap.size+1+1+1+1+1) .u8 26 12 (fun _=>0):=by rw[hW];exact A0 _ _ _ (by simp)
 replace hE:=hE.kept hB;have hss:W.heap.size=w.heap.size+1+1+1+1+1+1:=by rw[hW];simp
 have hAt:=Fk 45 #[.pointer (some ⟨w.heap.size,0,none⟩),.pointer (some ⟨(w.heap.size+1),0,none⟩),.pointer (some ⟨(w.heap.size+1+1+1+1),0,none⟩),.pointer (some ⟨(w.heap.size+1+1+1+1+1),0,none⟩)] (fun x=>x=(w.heap.size+1+1+1+1)∨x=(w.heap.size+1+1+1+1+1)) (fun x v=>x=0∧SAt v (w.heap.size+1+1+1+1) 31 162 V∧ArrAt v (w.heap.size+1+1+1+1+1) .u8 26 12 T) W H7 (fun x hx=>by omega) (fun u hu=>by
  refine((Uu w.heap.size (w.heap.size+1) (w.heap.size+1+1+1+1) (w.heap.size+1+1+1+1+1) O m V T u (hE.kept hu) (g0.kept hu) (g1.kept hu) (g4.kept hu) (g5.kept hu) h1V (by omega) hst).mono ?_);rintro e v ⟨rfl,p0,p1,ht⟩;exact⟨ht,0,.inl ⟨rfl,rfl⟩,rfl,p0,p1⟩)
 have hmf:∀(fn:Fn) (first cap:Array Value) (w:World),(Instr.makeFunc fn first cap).run prog w=.ok (.func fn first cap) w:=fun _ _ _ _=>rfl
 subst hW;go_enter func11,ntmps11;go_wp2_with fail;refine hAt.mono ?_;rintro e v0 ⟨x,vc,rfl,⟨hx,p0,p1⟩,tT,hb⟩;have hx':=hx.symm;clear hx;subst hx';clear hAt hmf;replace p0:=p0.block (hb.block (w.heap.size+1+1+1+1) (by omega));replace p1:=p1.block (hb.block (w.heap.size+1+1+1+1+1) (by omega));replace g2:=g2.block (tT.block (w.heap.size+1+1) g2.lt (by omega));replace g3:=g3.block (tT.block (w.heap.size+1+1+1) g3.lt (by omega));replace hB:Below w.heap.size w v0:=⟨tT.os.trans hB.os,tT.tape.trans hB.tape,tT.output.trans hB.output,Acp hB.size tT.size,fun k hk=>(tT.block k (by have:=hB.size;omega) (by omega)).trans (hB.block k hk)⟩;clear tT hb hss g0 g1 g4 g5 hE;go_wp2_with fail;have HL0:Hid (∀u,Touch (fun x=>x=(w.heap.size+1+1)∨x=(w.heap.size+1+1+1)) v0 u→SAt u (w.heap.size+1+1+1+1) 31 162 V):=Hid.mk (fun u hu=>p0.block (hu.block (w.heap.size+1+1+1+1) p0.lt (by omega)));have HL1:Hid (∀u,Touch (fun x=>x=(w.heap.size+1+1)∨x=(w.heap.size+1+1+1)) v0 u→ArrAt u (w.heap.size+1+1+1+1+1) .u8 26 12 T):=Hid.mk (fun u hu=>p1.block (hu.block (w.heap.size+1+1+1+1+1) p1.lt (by omega)));refine Ai (Touch (fun x=>x=(w.heap.size+1+1)∨x=(w.heap.size+1+1+1)) v0) v0.heap.size
   [((w.heap.size+1+1),once (SC 162 Bk) 31 3 (SC 162 V)),((w.heap.size+1+1+1),once (WA .u8 12 (fun _=>0)) 26 4 (WA .u8 12 T))]
   [kv (.agg (SC 162 V)),kv (.agg (WA .u8 12 T)),kv (.int .i64 0),.val fun _=>True,.val fun _=>True,kv (.int .i64 0)]
   [.none,.none,.none,.base 0 1,.base 1 1]
   [some 12,some 13,some 14,none,none,some 6]
   [(7,.pointer (some ⟨(w.heap.size+1+1+1+1),0,none⟩)),(8,.pointer (some ⟨(w.heap.size+1+1+1+1+1),0,none⟩)),(9,.int .i64 0),(4,.pointer (some ⟨(w.heap.size+1+1),0,none⟩)),(5,.pointer (some ⟨(w.heap.size+1+1+1),0,none⟩))]
   [[],[],[],[.slot 0,.base 0 0],[.slot 1,.base 1 0],[.slot 2]]
   [.base 0 1,.base 1 1,.slot 5] [12,13,14,6]
   rfl (by kernel_rfl) ⟨rfl,rfl,rfl,rfl,rfl,trivial⟩ (DK (Below.refl _ v0).drew) (Acg _) ⟨⟨g2.lt,Al g2⟩,⟨g3.lt,Al g3⟩,trivial⟩ ⟨⟨(show ((w.heap.size+1+1):Nat)≠(w.heap.size+1+1+1) from by omega),trivial⟩,trivial,trivial⟩ (GP (fun k hk=>by simpa using hk))
   ⟨
    (fun _ _ ww _ hS _ fr _=>sV (Es rfl AV (HL0.out ww hS) fr.1)),
    (fun _ _ ww _ hS _ fr _=>sV (AA rfl Ax (HL1.out ww hS) fr.2.1)),
    sL fun f _=>sV (Ab rfl f.2.2.1),
    sL fun f k=>.inl ⟨trivial,fun K hK=>CH rfl AV h1V f.2.2.2.1 k.1 (Ak k.2.1) (fun w2 hg ho=>hK _ _ ⟨⟨Ag ho,Al hg⟩,trivial⟩)⟩,
    sL fun f k=>.inl ⟨trivial,fun K hK=>Bs rfl Ax f.2.2.2.2.1 k.1 (Ak k.2.1) (fun w2 hg ho=>hK _ _ ⟨⟨Ag ho,Al hg⟩,trivial⟩)⟩,
    sL fun _ k=>sV (Av rfl k.1),
    trivial⟩ ?_
 intro vs own v9 hT1 hsz kn inj;clear inj hsz;have q0:SAt v9 (w.heap.size+1+1) 31 162 V:=Ak kn.1;have q1:ArrAt v9 (w.heap.size+1+1+1) .u8 26 12 T:=Ak kn.2.1;have e6:vs 6=_:=kn.2.2.1;clear kn HL0 HL1;replace hB:Below w.heap.size w v9:=⟨hT1.os.trans hB.os,hT1.tape.trans hB.tape,hT1.output.trans hB.output,Acp hB.size hT1.size,fun k hk=>(hT1.block k (by have:=hB.size;omega) (by omega)).trans (hB.block k hk)⟩;simp only[Am,Act.put,Aci,Acj,Ach,e6];go_wp2_with fail;exact bodyPost_ret (v:=.tuple #[.agg (SC 162 V),.agg (WA .u8 12 T),.int .i64 0]) (Et results11 AV Ax q0 q1 (by rfl) (by rfl) (by rfl)) rfl ⟨rfl,hB⟩
set_option linter.unusedVariables false in
theorem DR(O:Nat→Int)(m:ByteArray)(X:Int)(w:World)(hE:Env w)(hst:∀u,Env u→Calls prog 46 #[.agg (WA .u8 32 O),.string m] u fun e w'=>e=gup X∧Below u.heap.size u w'):Calls prog 11 #[.agg (WA .u8 32 O),.string m] w fun e w'=>e=.returned (.tuple #[.agg (SC 162 Bk),.agg (WA .u8 12 (fun _=>0)),.int .i64 X])∧Below w.heap.size w w':=by
 obtain⟨W,hW⟩:∃W,W=((((((w.alloc (.cells (WA .u8 32 O) 22)).alloc (.cells #[.string m] 9)).alloc (.cells zeroCells31 31)).alloc (.cells (WA .u8 12 (fun _=>0)) 26)).alloc (.cells zeroCells31 31)).alloc (.cells (WA .u8 12 (fun _=>0)) 26)):=⟨_,rfl⟩;have hB:Below w.heap.size w W:=by rw[hW];exact((((((Below.refl _ w).alloc (by simp) _).alloc (by simp) _).alloc (by simp;omega) _).alloc (by simp;omega) _).alloc (by simp;omega) _).alloc (by simp;omega) _
 have g0:ArrAt W w.heap.size .u8 22 32 O:=by rw[hW];exact Ad _ (Ad _ (Ad _ (Ad _ (Ad _ (A0 _ _ _ (by simp))))))
 have g1:CAt W (w.heap.size+1) 9 (.string m):=by rw[hW];exact Ad _ (Ad _ (Ad _ (Ad _ (A0 _ _ _ (by simp)))))
 have g2:SAt W (w.heap.size+1+1) 31 162 Bk:=by
  unfold SAt;rw[hW,←BU];exact Ad _ (Ad _ (Ad _ (A0 _ _ _ (by simp))))
 have g3:ArrAt W (w.heap.size+1+1+1) .u8 26 12 (fun _=>0):=by rw[hW];exact Ad _ (Ad _ (A0 _ _ _ (by simp)))
 have g4:SAt W (w.heap.size+1+1+1+1) 31 162 Bk:=by
  unfold SAt;rw[hW,←BU];exact Ad _ (A0 _ _ _ (by simp))
 have g5:ArrAt W (w.heap.size+1+1+1+1+1) .u8 26 12 (fun _=>0):=by rw[hW];exact A0 _ _ _ (by simp)
 replace hE:=hE.kept hB;have hss:W.heap.size=w.heap.size+1+1+1+1+1+1:=by rw[hW];simp
 have hAt:=Fk 45 #[.pointer (some ⟨w.heap.size,0,none⟩),.pointer (some ⟨(w.heap.size+1),0,none⟩),.pointer (some ⟨(w.heap.size+1+1+1+1),0,none⟩),.pointer (some ⟨(w.heap.size+1+1+1+1+1),0,none⟩)] (fun x=>x=(w.heap.size+1+1+1+1)∨x=(w.heap.size+1+1+1+1+1)) (fun x v=>x=X∧SAt v (w.heap.size+1+1+1+1) 31 162 Bk∧ArrAt v (w.heap.size+1+1+1+1+1) .u8 26 12 (fun _=>0)) W H7 (fun x hx=>by omega) (fun u hu=>by
  refine((Uv w.heap.size (w.heap.size+1) (w.heap.size+1+1+1+1) (w.heap.size+1+1+1+1+1) O m X u (hE.kept hu) (g0.kept hu) (g1.kept hu) hst).mono ?_);rintro e v ⟨rfl,hb⟩;exact⟨DK hb,X,.inr rfl,rfl,(g4.kept hu).kept hb,(g5.kept hu).kept hb⟩)
 have hmf:∀(fn:Fn) (first cap:Array Value) (w:World),(Instr.makeFunc fn first cap).run prog w=.ok (.func fn first cap) w:=fun _ _ _ _=>rfl
 subst hW;go_enter func11,ntmps11;go_wp2_with fail;refine hAt.mono ?_;rintro e v0 ⟨x,vc,rfl,⟨hx,p0,p1⟩,tT,hb⟩;have hx':=hx.symm;clear hx;subst hx';clear hAt hmf;replace p0:=p0.block (hb.block (w.heap.size+1+1+1+1) (by omega));replace p1:=p1.block (hb.block (w.heap.size+1+1+1+1+1) (by omega));replace g2:=g2.block (tT.block (w.heap.size+1+1) g2.lt (by omega));replace g3:=g3.block (tT.block (w.heap.size+1+1+1) g3.lt (by omega));replace hB:Below w.heap.size w v0:=⟨tT.os.trans hB.os,tT.tape.trans hB.tape,tT.output.trans hB.output,Acp hB.size tT.size,fun k hk=>(tT.block k (by have:=hB.size;omega) (by omega)).trans (hB.block k hk)⟩;clear tT hb hss g0 g1 g4 g5 hE;go_wp2_with fail;have HL0:Hid (∀u,Touch (fun x=>x=(w.heap.size+1+1)∨x=(w.heap.size+1+1+1)) v0 u→SAt u (w.heap.size+1+1+1+1) 31 162 Bk):=Hid.mk (fun u hu=>p0.block (hu.block (w.heap.size+1+1+1+1) p0.lt (by omega)));have HL1:Hid (∀u,Touch (fun x=>x=(w.heap.size+1+1)∨x=(w.heap.size+1+1+1)) v0 u→ArrAt u (w.heap.size+1+1+1+1+1) .u8 26 12 (fun _=>0)):=Hid.mk (fun u hu=>p1.block (hu.block (w.heap.size+1+1+1+1+1) p1.lt (by omega)));refine Ai (Touch (fun x=>x=(w.heap.size+1+1)∨x=(w.heap.size+1+1+1)) v0) v0.heap.size
   [((w.heap.size+1+1),once (SC 162 Bk) 31 3 (SC 162 Bk)),((w.heap.size+1+1+1),once (WA .u8 12 (fun _=>0)) 26 4 (WA .u8 12 (fun _=>0)))]
   [kv (.agg (SC 162 Bk)),kv (.agg (WA .u8 12 (fun _=>0))),kv (.int .i64 X),.val fun _=>True,.val fun _=>True,kv (.int .i64 X)]
   [.none,.none,.none,.base 0 1,.base 1 1]
   [some 12,some 13,some 14,none,none,some 6]
   [(7,.pointer (some ⟨(w.heap.size+1+1+1+1),0,none⟩)),(8,.pointer (some ⟨(w.heap.size+1+1+1+1+1),0,none⟩)),(9,.int .i64 X),(4,.pointer (some ⟨(w.heap.size+1+1),0,none⟩)),(5,.pointer (some ⟨(w.heap.size+1+1+1),0,none⟩))]
   [[],[],[],[.slot 0,.base 0 0],[.slot 1,.base 1 0],[.slot 2]]
   [.base 0 1,.base 1 1,.slot 5] [12,13,14,6]
   rfl (by kernel_rfl) ⟨rfl,rfl,rfl,rfl,rfl,trivial⟩ (DK (Below.refl _ v0).drew) (Acg _) ⟨⟨g2.lt,Al g2⟩,⟨g3.lt,Al g3⟩,trivial⟩ ⟨⟨(show ((w.heap.size+1+1):Nat)≠(w.heap.size+1+1+1) from by omega),trivial⟩,trivial,trivial⟩ (GP (fun k hk=>by simpa using hk))
   ⟨
    (fun _ _ ww _ hS _ fr _=>sV (Es rfl AV (HL0.out ww hS) fr.1)),
    (fun _ _ ww _ hS _ fr _=>sV (AA rfl Ax (HL1.out ww hS) fr.2.1)),
    sL fun f _=>sV (Ab rfl f.2.2.1),
    sL fun f k=>.inl ⟨trivial,fun K hK=>CH rfl AV (Bu _ _ _ _ _ _ _) f.2.2.2.1 k.1 (Ak k.2.1) (fun w2 hg ho=>hK _ _ ⟨⟨Ag ho,Al hg⟩,trivial⟩)⟩,
    sL fun f k=>.inl ⟨trivial,fun K hK=>Bs rfl Ax f.2.2.2.2.1 k.1 (Ak k.2.1) (fun w2 hg ho=>hK _ _ ⟨⟨Ag ho,Al hg⟩,trivial⟩)⟩,
    sL fun _ k=>sV (Av rfl k.1),
    trivial⟩ ?_
 intro vs own v9 hT1 hsz kn inj;clear inj hsz;have q0:SAt v9 (w.heap.size+1+1) 31 162 Bk:=Ak kn.1;have q1:ArrAt v9 (w.heap.size+1+1+1) .u8 26 12 (fun _=>0):=Ak kn.2.1;have e6:vs 6=_:=kn.2.2.1;clear kn HL0 HL1;replace hB:Below w.heap.size w v9:=⟨hT1.os.trans hB.os,hT1.tape.trans hB.tape,hT1.output.trans hB.output,Acp hB.size hT1.size,fun k hk=>(hT1.block k (by have:=hB.size;omega) (by omega)).trans (hB.block k hk)⟩;simp only[Am,Act.put,Aci,Acj,Ach,e6];go_wp2_with fail;exact bodyPost_ret (v:=.tuple #[.agg (SC 162 Bk),.agg (WA .u8 12 (fun _=>0)),.int .i64 X]) (Et results11 AV Ax q0 q1 (by rfl) (by rfl) (by rfl)) rfl ⟨rfl,hB⟩
def AaK(O P E T H0 C0:Nat→Int)(ix:Int):ByteArray:=⟨#[1,0,0,0]⟩++Bx ix++mkS 32 (BT E)++bgA O P E H0 C0++bgB O P E T H0 C0
theorem PC(args:Array Value)(w:World):(callFunc 18 args).run prog w=.ok (.enter 18 args) w:=by kernel_rfl
theorem Ux(args:Array Value)(w:World):(callFunc 83 args).run prog w=.ok (.enter 83 args) w:=by kernel_rfl
theorem AbK(w:World):(zeroValue 118).run prog w=.ok (.agg (SC 35 Mv)) w:=by kernel_rfl
theorem E8{ops:Array Oper}{rest:List Oper}{d:Option Tmp}{t:TypeId}{ps:String}{af:Array Edge}{a:Act}{w:World}{Q:Exit→Act→World→Prop}(h:∀w',SAt w' w.heap.size 118 35 Mv→Below w.heap.size w w'→wpList prog ops Q rest (a.put d (.pointer (some ⟨w.heap.size,0,none⟩))) w'):wpList prog ops Q ({ dst:=d,op:=.alloc 118,type:=t,pos:=ps,after:=af,guard:=none }::rest) a w:=
 CZ rfl (Bi AbK rfl (fun w' hb hg=>h w' hg hb))
def GQ(O P E T H0 C0:Nat→Int)(ix:Int):Ending:=if shZ E P=true∧shZ O P=true then .returned (.tuple #[.string (AaK O P E T H0 C0 ix),.agg (SC 162 (Cl (Xm O P E T H0 C0) (Um O P E C0 0) E (fun _=>0) P ix 0))]) else gup 18
set_option linter.unusedVariables false in
theorem Iu(O P E T H0 C0:Nat→Int)(ix:Int)(w:World)(hE:Env w)(hO:Byts 32 O)(hP:Byts 32 P)(hEk:Byts 32 E)(hT:Byts 12 T)(hC0:Byts 32 C0)(hH0:Byts 32 H0)(hBeg:∀u,Env u→Calls prog 78 #[.agg (WA .u8 32 P)] u fun e w'=>∃b,u.heap.size≤b∧e=.returned (.pointer (some ⟨b,0,none⟩))∧KtAt w' b H0 C0 (fun _=>0)∧Below u.heap.size u w'):Calls prog 36 #[.agg (WA .u8 32 O),.agg (WA .u8 32 P),.agg (WA .u8 32 E),.agg (WA .u8 12 T),.int .u32 ix] w fun e w'=>e=GQ O P E T H0 C0 ix∧Below w.heap.size w w':=by
 obtain⟨RR,hRR⟩:∃V,GQ O P E T H0 C0 ix=V:=⟨_,rfl⟩;rw[hRR];have hb4:Below (((((w.alloc (.cells (WA .u8 32 O) 22)).alloc (.cells (WA .u8 32 P) 22)).alloc (.cells (WA .u8 32 E) 22)).alloc (.cells (WA .u8 12 T) 26))).heap.size ((((w.alloc (.cells (WA .u8 32 O) 22)).alloc (.cells (WA .u8 32 P) 22)).alloc (.cells (WA .u8 32 E) 22)).alloc (.cells (WA .u8 12 T) 26)) (((((w.alloc (.cells (WA .u8 32 O) 22)).alloc (.cells (WA .u8 32 P) 22)).alloc (.cells (WA .u8 32 E) 22)).alloc (.cells (WA .u8 12 T) 26)).alloc (.cells zeroCells31 31)):=(Below.refl _ _).alloc (Acg _) _;have g0:ArrAt (((((w.alloc (.cells (WA .u8 32 O) 22)).alloc (.cells (WA .u8 32 P) 22)).alloc (.cells (WA .u8 32 E) 22)).alloc (.cells (WA .u8 12 T) 26)).alloc (.cells zeroCells31 31)) w.heap.size .u8 22 32 O:=ArrAt.kept (Iz w _ _ _ _) hb4;have g1:ArrAt (((((w.alloc (.cells (WA .u8 32 O) 22)).alloc (.cells (WA .u8 32 P) 22)).alloc (.cells (WA .u8 32 E) 22)).alloc (.cells (WA .u8 12 T) 26)).alloc (.cells zeroCells31 31)) (w.heap.size+1) .u8 22 32 P:=ArrAt.kept (I0 w _ _ _ _) hb4;have g2:ArrAt (((((w.alloc (.cells (WA .u8 32 O) 22)).alloc (.cells (WA .u8 32 P) 22)).alloc (.cells (WA .u8 32 E) 22)).alloc (.cells (WA .u8 12 T) 26)).alloc (.cells zeroCells31 31)) (w.heap.size+1+1) .u8 22 32 E:=ArrAt.kept (I1 w _ _ _ _) hb4;have g3:ArrAt (((((w.alloc (.cells (WA .u8 32 O) 22)).alloc (.cells (WA .u8 32 P) 22)).alloc (.cells (WA .u8 32 E) 22)).alloc (.cells (WA .u8 12 T) 26)).alloc (.cells zeroCells31 31)) (w.heap.size+1+1+1) .u8 26 12 T:=ArrAt.kept (GU w _ _ _ _) hb4
 have gH:SAt (((((w.alloc (.cells (WA .u8 32 O) 22)).alloc (.cells (WA .u8 32 P) 22)).alloc (.cells (WA .u8 32 E) 22)).alloc (.cells (WA .u8 12 T) 26)).alloc (.cells zeroCells31 31)) (w.heap.size+1+1+1+1) 31 162 Bk:=by
  have h:=heap_alloc_new ((((w.alloc (.cells (WA .u8 32 O) 22)).alloc (.cells (WA .u8 32 P) 22)).alloc (.cells (WA .u8 32 E) 22)).alloc (.cells (WA .u8 12 T) 26)) (.cells zeroCells31 31);have e:(((((w.alloc (.cells (WA .u8 32 O) 22)).alloc (.cells (WA .u8 32 P) 22)).alloc (.cells (WA .u8 32 E) 22)).alloc (.cells (WA .u8 12 T) 26))).heap.size=w.heap.size+1+1+1+1:=by simp
  rw[e] at h;unfold SAt;rw[←BU];exact h
 have hB:Below w.heap.size w (((((w.alloc (.cells (WA .u8 32 O) 22)).alloc (.cells (WA .u8 32 P) 22)).alloc (.cells (WA .u8 32 E) 22)).alloc (.cells (WA .u8 12 T) 26)).alloc (.cells zeroCells31 31)):=(((((Below.refl _ w).alloc (by simp) _).alloc (by simp) _).alloc (by simp;omega) _).alloc (by simp;omega) _).alloc (by simp;omega) _;replace hE:=hE.kept hB;have HOO:=Hid.mk hO;have HEE:=Hid.mk hEk;clear hb4;go_enter func36,ntmps36;go_wp2_with fail;refine AJ (fun v=>ArrAt v w.heap.size .u8 22 32 O∧ArrAt v (w.heap.size+1) .u8 22 32 P∧ArrAt v (w.heap.size+1+1) .u8 22 32 E∧ArrAt v (w.heap.size+1+1+1) .u8 26 12 T∧SAt v (w.heap.size+1+1+1+1) 31 162 Bk∧Below w.heap.size w v∧Env v) ⟨g0,g1,g2,g3,gH,hB,hE⟩ ?_;clear g0 g1 g2 g3 gH hB hE;rintro v0 ⟨g0,g1,g2,g3,gH,hB,hE⟩;have HG0:Hid (∀u,Below v0.heap.size v0 u→ArrAt u w.heap.size .u8 22 32 O):=Hid.mk (fun u hu=>g0.kept hu);have HG2:Hid (∀u,Below v0.heap.size v0 u→ArrAt u (w.heap.size+1+1) .u8 22 32 E):=Hid.mk (fun u hu=>g2.kept hu);have HP:Hid (∀u,Below v0.heap.size v0 u→Fld.PrimeAt u):=Hid.mk (fun u hu=>(hE.kept hu).2);have hHlt:=gH.lt;refine Ai (Below v0.heap.size v0) v0.heap.size
   ([]:List (Nat×Cont))
   [kv (.agg (WA .u8 32 E)),kv (.agg (WA .u8 32 (BT E))),kv (.agg (WA .u8 32 O)),kv (.agg (WA .u8 32 (BT O))),kp (WA .u8 32 fun _=>0) 22 6 (WA .u8 32 (BT E)),kp (WA .u8 32 fun _=>0) 22 7 (WA .u8 32 (BT O)),.val fun _=>True,.val fun _=>True]
   [.none,.none,.none,.none,.none,.none,.own 4 1,.own 5 1]
   [some 18,some 19,some 20,some 21,some 12,some 13,none,none]
   [(7,.pointer (some ⟨(w.heap.size+1+1),0,none⟩)),(5,.pointer (some ⟨w.heap.size,0,none⟩))]
   [[],[.slot 0],[],[.slot 2],[],[],[.slot 4,.cont 4 0,.slot 1],[.slot 5,.cont 5 0,.slot 3]]
   [.slot 4,.cont 4 1,.slot 5,.cont 5 1] [18,19,20,21,12,13]
   rfl (by kernel_rfl) ⟨rfl,rfl,trivial⟩ (Below.refl _ v0).drew (Acg _) trivial trivial (A8 (Acg _) trivial)
   ⟨
    (fun _ _ ww _ hS _ fr _=>sV (AA rfl Af (HG2.out ww hS) fr.1)),
    (fun _ _ ww _ hS _ _ kn=>.inl ⟨trivial,fun K hK=>AH PC rfl (BI kn.1) (Dz E ww (HP.out ww hS) HEE.out) (fun w' hb=>hK _ _ ⟨Ac hb,rfl⟩)⟩),
    (fun _ _ ww _ hS _ fr _=>sV (AA rfl Af (HG0.out ww hS) fr.2.1)),
    (fun _ _ ww _ hS _ _ kn=>.inl ⟨trivial,fun K hK=>AH PC rfl (BI kn.1) (Dz O ww (HP.out ww hS) HOO.out) (fun w' hb=>hK _ _ ⟨Ac hb,rfl⟩)⟩),
    sL fun _ _=>.inl ⟨trivial,fun K hK=>Bi Ju rfl (fun w' hb hg=>hK _ _ ⟨Ac hb,_,Acg _,rfl,Al hg⟩)⟩,
    sL fun _ _=>.inl ⟨trivial,fun K hK=>Bi Ju rfl (fun w' hb hg=>hK _ _ ⟨Ac hb,_,Acg _,rfl,Al hg⟩)⟩,
    sL fun _ k=>.inl ⟨trivial,fun K hK=>Bs rfl Af k.1.1 k.2.2.1 (Ak k.2.1) (fun w2 hg ho=>hK _ _ ⟨Ag ho,Al hg,trivial⟩)⟩,
    sL fun _ k=>.inl ⟨trivial,fun K hK=>Bs rfl Af k.1.1 k.2.2.1 (Ak k.2.1) (fun w2 hg ho=>hK _ _ ⟨Ag ho,Al hg,trivial⟩)⟩,
    trivial⟩ ?_
 intro vs own v1 hb hs1 kn inj;clear inj HG0 HG2 HP;obtain⟨k1,k2,k3,k4,-⟩:=kn;obtain⟨e12,hb12,_⟩:=k1;obtain⟨e13,hb13,_⟩:=k3;change vs 12=_ at e12;change vs 13=_ at e13;have ge:ArrAt v1 (own 4) .u8 22 32 (BT E):=Ak k2;have gk:ArrAt v1 (own 5) .u8 22 32 (BT O):=Ak k4;clear k2 k4 hs1;replace g0:=g0.kept hb;replace g1:=g1.kept hb;replace g2:=g2.kept hb;replace g3:=g3.kept hb;replace gH:=gH.kept hb;replace hE:=hE.kept hb;replace hB:=hB.trans (hb.mono hB.size);clear hb;simp only[Am,Act.put,Aci,Acj,Ach,e12,e13];generalize own 4=be at *;generalize own 5=bk at *;clear e12 e13;have hbe:w.heap.size+1+1+1+1+1≤be:=by omega
 have hbk:w.heap.size+1+1+1+1+1≤bk:=by omega
 clear hb12 hb13 hHlt
 go_wp2_with (refine Aq Af g1 (by rfl) ?_)
 have hlt1:=ge.lt;have hlt2:=gk.lt;have hlt3:=gH.lt;have hEt:=hE.two;have hBs:=hB.size;refine(hBeg _ hE).mono ?_;rintro x v2 ⟨b,hbb,rfl,g,hb⟩;have hb3:3≤b:=by omega
 have hbS:w.heap.size≤b:=by omega
 replace g0:=g0.kept hb;replace g1:=g1.kept hb;replace g2:=g2.kept hb;replace g3:=g3.kept hb;replace gH:=gH.kept hb;replace ge:=ge.kept hb;replace gk:=gk.kept hb;replace hE:=hE.kept hb;replace hB:=hB.trans (hb.mono hB.size);clear hb;clear hBeg hEt hBs
 go_wp2_with (refine Aq Af ge (by rfl) ?_)
 refine(Co b H0 C0 _ (BT E) _ hE hb3 g hH0 hC0 (GK E 32)).mono ?_;rintro x v3 ⟨rfl,g',t1⟩;replace g0:=g0.tou t1 (by omega);replace g1:=g1.tou t1 (by omega);replace g2:=g2.tou t1 (by omega);replace g3:=g3.tou t1 (by omega);replace gH:=gH.tou t1 (by omega);replace ge:=ge.tou t1 (by omega);replace gk:=gk.tou t1 (by omega);replace hE:=hE.touch t1 hb3;replace hB:=AU hB t1 hbS (Acg _);clear t1;clear g;have g:=g';clear g';have hC1:Byts 32 (chn C0 (mkS 32 (BT E)) 0):=Dr _ _ 0 32;have hH1:Byts 32 (BX H0 (mkS 32 (BT E))):=C6 _ _ 32;obtain⟨C1,hC1e⟩:∃X,chn C0 (mkS 32 (BT E)) 0=X:=⟨_,rfl⟩;obtain⟨H1,hH1e⟩:∃X,BX H0 (mkS 32 (BT E))=X:=⟨_,rfl⟩;rw[hC1e] at g hC1;rw[hH1e] at g hH1;have hmf:∀(fn:Fn) (first cap:Array Value) (w:World),(Instr.makeFunc fn first cap).run prog w=.ok (.func fn first cap) w:=fun _ _ _ _=>rfl
 go_wp2_with (first|(refine Aq Af g2 (by rfl) ?_)|(refine Aq Af g1 (by rfl) ?_))
 by_cases hzE:shZ E P=true
 case neg =>
  have hz:shZ E P=false:=by simpa using hzE
  refine(Hp _ E P _ hE hEk hP hz).mono ?_;rintro x v9 ⟨rfl,hb⟩;exact⟨rfl,by rw[←hRR];unfold GQ;rw[if_neg (fun h=>hzE h.1)];rfl,hB.trans (hb.mono hB.size)⟩
 refine(Ce b H1 C1 _ E P _ hE g hC1 hEk hP hzE).mono ?_;rintro x v4 ⟨rfl,g',t1⟩;replace g0:=g0.tou t1 (by omega);replace g1:=g1.tou t1 (by omega);replace g2:=g2.tou t1 (by omega);replace g3:=g3.tou t1 (by omega);replace gH:=gH.tou t1 (by omega);replace ge:=ge.tou t1 (by omega);replace gk:=gk.tou t1 (by omega);replace hE:=hE.touch t1 hb3;replace hB:=AU hB t1 hbS (Acg _);clear t1;clear g;have g:=g';clear g';obtain⟨L,hLe⟩:∃X,chn C1 (mkS 32 (shF E P))=X:=⟨_,rfl⟩;have hL:∀i,Byts 32 (L i):=fun i=>hLe▸Dr _ _ i 32
 rw[hLe] at g;have hcv:=AD 32 bk 32 _ 32 (BT O) gk.row (GK O 32) rfl;go_wp2_with fail;refine(P7 b H1 (L 0) (L 1) (mkS 32 (BT O)) _ hE hb3 g hH1 (hL 1) (by rw[Ar];omega)).mono ?_;rintro x v5 ⟨rfl,g',t1⟩;replace g0:=g0.tou t1 (by omega);replace g1:=g1.tou t1 (by omega);replace g2:=g2.tou t1 (by omega);replace g3:=g3.tou t1 (by omega);replace gH:=gH.tou t1 (by omega);replace ge:=ge.tou t1 (by omega);replace gk:=gk.tou t1 (by omega);replace hE:=hE.touch t1 hb3;replace hB:=AU hB t1 hbS (Acg _);clear t1;clear g hcv;have g:=g';clear g';have hZas:(Ek (L 1) B9 (mkS 32 (BT O)) (mkS 32 H1)).size≤48:=by rw[E6,Ar];omega
 obtain⟨Za,hZa⟩:∃X,Ek (L 1) B9 (mkS 32 (BT O)) (mkS 32 H1)=X:=⟨_,rfl⟩;rw[hZa] at g hZas ⊢;obtain⟨H2,hH2e⟩:∃X,BX H1 Za=X:=⟨_,rfl⟩;rw[hH2e] at g;have hH2:Byts 32 H2:=hH2e▸C6 _ _ 32
 go_wp2_with (first|(refine Aq Af g0 (by rfl) ?_)|(refine Aq Af g1 (by rfl) ?_))
 by_cases hzO:shZ O P=true
 case neg =>
  have hz:shZ O P=false:=by simpa using hzO
  refine(Hp _ O P _ hE hO hP hz).mono ?_;rintro x v9 ⟨rfl,hb⟩;exact⟨rfl,by rw[←hRR];unfold GQ;rw[if_neg (fun h=>hzO h.2)];rfl,hB.trans (hb.mono hB.size)⟩
 refine(Ce b H2 (L 0) _ O P _ hE g (hL 0) hO hP hzO).mono ?_;rintro x v6 ⟨rfl,g',t1⟩;replace g0:=g0.tou t1 (by omega);replace g1:=g1.tou t1 (by omega);replace g2:=g2.tou t1 (by omega);replace g3:=g3.tou t1 (by omega);replace gH:=gH.tou t1 (by omega);replace ge:=ge.tou t1 (by omega);replace gk:=gk.tou t1 (by omega);replace hE:=hE.touch t1 hb3;replace hB:=AU hB t1 hbS (Acg _);clear t1;clear g;have g:=g';clear g';obtain⟨M,hMe⟩:∃X,chn (L 0) (mkS 32 (shF O P))=X:=⟨_,rfl⟩;have hM:∀i,Byts 32 (M i):=fun i=>hMe▸Dr _ _ i 32
 rw[hMe] at g;have hcv:=AD 12 (w.heap.size+1+1+1) 12 _ 12 T g3.row hT rfl;go_wp2_with fail;refine(P7 b H2 (M 0) (M 1) (mkS 12 T) _ hE hb3 g hH2 (hM 1) (by rw[Ar];omega)).mono ?_;rintro x v7 ⟨rfl,g',t1⟩;replace g0:=g0.tou t1 (by omega);replace g1:=g1.tou t1 (by omega);replace g2:=g2.tou t1 (by omega);replace g3:=g3.tou t1 (by omega);replace gH:=gH.tou t1 (by omega);replace ge:=ge.tou t1 (by omega);replace gk:=gk.tou t1 (by omega);replace hE:=hE.touch t1 hb3;replace hB:=AU hB t1 hbS (Acg _);clear t1;clear g hcv;have g:=g';clear g';have hZbs:(Ek (M 1) B9 (mkS 12 T) (mkS 32 H2)).size≤48:=by rw[E6,Ar];omega
 obtain⟨Zb,hZb⟩:∃X,Ek (M 1) B9 (mkS 12 T) (mkS 32 H2)=X:=⟨_,rfl⟩;rw[hZb] at g hZbs ⊢;obtain⟨H3,hH3e⟩:∃X,BX H2 Zb=X:=⟨_,rfl⟩;rw[hH3e] at g;have hH3:Byts 32 H3:=hH3e▸C6 _ _ 32;have lqg0:=g0.lt;have lqg1:=g1.lt;have lqg2:=g2.lt;have lqg3:=g3.lt;have lqgH:=gH.lt;have lqge:=ge.lt;have lqgk:=gk.lt;have lqg:=g.lt;have lqB:=hB.size;have lqE:=hE.two
 go_wp2_with (first|(refine Aq Af ge (by rfl) ?_)|(refine Ae rfl (Nj rfl (by rfl) (by rfl) (by rfl) (by rfl)) ?_)|(refine E8 ?_;intro v8 gi0 hb;refine Hid.out ?_))
 replace g0:=g0.kept hb;replace g1:=g1.kept hb;replace g2:=g2.kept hb;replace g3:=g3.kept hb;replace gH:=gH.kept hb;replace ge:=ge.kept hb;replace gk:=gk.kept hb;replace g:=g.kept hb;replace hE:=hE.kept hb;replace hB:=hB.trans (hb.mono hB.size);clear hb;refine Hid.mk ?_
 go_wp2_with (refine En Gg (EW _ _ _ _) gi0 (by rfl) (by rfl) ?_;intro v9 gi o6;refine Hid.out ?_)
 replace g0:=g0.only o6 (by omega);replace g1:=g1.only o6 (by omega);replace g2:=g2.only o6 (by omega);replace g3:=g3.only o6 (by omega);replace gH:=gH.only o6 (by omega);replace ge:=ge.only o6 (by omega);replace gk:=gk.only o6 (by omega);replace g:=g.only o6 (by omega);replace hE:=hE.only o6 (by omega);replace hB:=hB.trans (o6.below (by omega));clear o6;clear gi0;refine Hid.mk ?_;go_wp2_with fail;obtain⟨bi,hbi⟩:∃bi,v7.heap.size=bi:=⟨_,rfl⟩;rw[hbi] at gi;have HI:Hid (∀u,Touch (fun x=>x=(w.heap.size+1+1+1+1)) v9 u→SAt u bi 118 35 (F7 ix (BT E) Za Zb)):=Hid.mk (fun u hu=>gi.tou hu (by omega));have HG:Hid (∀u,Touch (fun x=>x=(w.heap.size+1+1+1+1)) v9 u→KtAt u b H3 (M 0) (M 1)):=Hid.mk (fun u hu=>g.block (hu.block b g.lt (by omega)));have HG1:Hid (∀u,Touch (fun x=>x=(w.heap.size+1+1+1+1)) v9 u→ArrAt u (w.heap.size+1) .u8 22 32 P):=Hid.mk (fun u hu=>g1.tou hu (by omega));have HG2:Hid (∀u,Touch (fun x=>x=(w.heap.size+1+1+1+1)) v9 u→ArrAt u (w.heap.size+1+1) .u8 22 32 E):=Hid.mk (fun u hu=>g2.tou hu (by omega));have HTX:=Hid.mk (X8 ix (BT E) Za Zb (GK E 32) (by omega) (by omega));rw[hbi];refine Ai (Touch (fun x=>x=(w.heap.size+1+1+1+1)) v9) v9.heap.size
   [((w.heap.size+1+1+1+1),once (SC 162 Bk) 31 15 (SC 162 (Cl H3 (M 0) E (fun _=>0) P ix 0)))]
   [kv (.agg (SC 35 (F7 ix (BT E) Za Zb))),kv (.string (⟨#[1,0,0,0]⟩++Bx ix++mkS 32 (BT E)++Za++Zb)),kv (.pointer (some ⟨b,0,none⟩)),kv (.pointer (some ⟨b,0,none⟩)),kv (.pointer (some ⟨b,0,none⟩)),kv (.agg (WA .u8 32 H3)),kv (.pointer (some ⟨b,0,none⟩)),kv (.pointer (some ⟨b,0,none⟩)),kv (.pointer (some ⟨b,32,none⟩)),kv (.agg (WA .u8 32 (M 0))),kv (.agg (WA .u8 32 E)),kv (.agg (WA .u8 32 P)),kv (.int .u32 ix),kv (.agg (SC 162 (Cl H3 (M 0) E (fun _=>0) P ix 0))),kv (.string (⟨#[1,0,0,0]⟩++Bx ix++mkS 32 (BT E)++Za++Zb)),.val fun _=>True]
   [.none,.none,.none,.none,.none,.none,.none,.none,.none,.none,.none,.none,.none,.none,.none,.base 0 1]
   [some 50,some 51,some 52,some 53,some 54,some 55,some 56,some 57,some 58,some 59,some 60,some 61,some 62,some 63,some 10,none]
   [(17,.pointer (some ⟨bi,0,none⟩)),(14,.pointer (some ⟨b,0,none⟩)),(7,.pointer (some ⟨(w.heap.size+1+1),0,none⟩)),(6,.pointer (some ⟨(w.heap.size+1),0,none⟩)),(4,.int .u32 ix),(11,.pointer (some ⟨(w.heap.size+1+1+1+1),0,none⟩))]
   [[],[.slot 0],[],[.slot 2],[.slot 3],[.slot 4],[],[.slot 6],[.slot 7],[.slot 8],[],[],[],[.slot 5,.slot 9,.slot 10,.slot 11,.slot 12],[.slot 1],[.slot 13,.base 0 0]]
   [.base 0 1,.slot 14] [50,51,52,53,54,55,56,57,58,59,60,61,62,63,10]
   rfl (by kernel_rfl) ⟨rfl,rfl,rfl,rfl,rfl,rfl,trivial⟩ (DQ (w.heap.size+1+1+1+1) (Below.refl _ v9).drew) (Acg _) ⟨⟨gH.lt,Al gH⟩,trivial⟩ ⟨trivial,trivial⟩ Fj
   ⟨
    (fun _ _ ww _ hS _ fr _=>sV (Es rfl Gg (HI.out ww hS) fr.1)),
    (fun _ _ ww _ _ _ _ kn=>.inl ⟨trivial,fun K hK=>AH Ux rfl (BI kn.1) (HTX.out ww) (fun w' hb=>hK _ _ ⟨Ac hb,rfl⟩)⟩),
    sL fun f _=>sV (Ab rfl f.2.1),
    sL fun _ k=>sV (AO rfl k.1),
    sL fun _ kn=>sV (Dv (k:=0) rfl kn.1 (by decide)),
    (fun _ _ ww _ hS _ _ kn=>sV (Ao rfl Af kn.1 (HG.out ww hS).h)),
    sL fun f _=>sV (Ab rfl f.2.1),
    sL fun _ k=>sV (AO rfl k.1),
    sL fun _ kn=>sV (Dv (k:=1) rfl kn.1 (by decide)),
    (fun _ _ ww _ hS _ _ kn=>sV (Ao rfl Af kn.1 (HG.out ww hS).c)),
    (fun _ _ ww _ hS _ fr _=>sV (AA rfl Af (HG2.out ww hS) fr.2.2.1)),
    (fun _ _ ww _ hS _ fr _=>sV (AA rfl Af (HG1.out ww hS) fr.2.2.2.1)),
    sL fun f _=>sV (Ab rfl f.2.2.2.2.1),
    sL fun _ k=>sV (Nc rfl k.1 k.2.1 k.2.2.1 k.2.2.2.1 k.2.2.2.2.1),
    sL fun _ k=>sV (Av rfl k.1),
    sL fun f k=>.inl ⟨trivial,fun K hK=>CH rfl AV (Bu _ _ _ _ _ _ _) f.2.2.2.2.2.1 k.1 (Ak k.2.1) (fun w2 hg ho=>hK _ _ ⟨⟨Ag ho,Al hg⟩,trivial⟩)⟩,
    trivial⟩ ?_
 intro vs own v10 hT1 hsz kn inj;clear inj hsz;have gH6:SAt v10 (w.heap.size+1+1+1+1) 31 162 (Cl H3 (M 0) E (fun _=>0) P ix 0):=Ak kn.1;have e10:vs 10=_:=kn.2.1;clear kn HG HG1 HG2 HI HTX;replace hB:=AU hB hT1 (by omega) (Acg _);simp only[Am,Act.put,Aci,Acj,Ach,e10];go_wp2_with fail;refine bodyPost_ret (v:=.tuple #[.string (⟨#[1,0,0,0]⟩++Bx ix++mkS 32 (BT E)++Za++Zb),.agg (SC 162 (Cl H3 (M 0) E (fun _=>0) P ix 0))]) (AaJ results36 AV gH6 (by rfl) (by rfl)) rfl ⟨?_,hB⟩;rw[←hRR];unfold GQ;rw[if_pos ⟨hzE,hzO⟩];simp only[AaK,Xm,bgB,Zp,Um,bgA,Zo,hC1e,hH1e,hLe,hZa,hH2e,hMe,hZb,hH3e]
set_option linter.unusedVariables false in
theorem Nl(O P E T H0 C0:Nat→Int)(ix:Int)(w:World)(hE:Env w)(hO:Byts 32 O)(hP:Byts 32 P)(hEk:Byts 32 E)(hT:Byts 12 T)(hC0:Byts 32 C0)(hH0:Byts 32 H0)(hz:shZ E P=false)(hBeg:∀u,Env u→Calls prog 78 #[.agg (WA .u8 32 P)] u fun e w'=>∃b,u.heap.size≤b∧e=.returned (.pointer (some ⟨b,0,none⟩))∧KtAt w' b H0 C0 (fun _=>0)∧Below u.heap.size u w'):Calls prog 36 #[.agg (WA .u8 32 O),.agg (WA .u8 32 P),.agg (WA .u8 32 E),.agg (WA .u8 12 T),.int .u32 ix] w fun e w'=>e=gup 18∧Below w.heap.size w w':=by
 have h:=Iu O P E T H0 C0 ix w hE hO hP hEk hT hC0 hH0 hBeg;unfold GQ at h;rw[if_neg (fun h=>by rw[hz] at h;exact absurd h.1 (by decide))] at h;exact h
set_option linter.unusedVariables false in
theorem Uy(O P E T H0 C0:Nat→Int)(ix:Int)(w:World)(hE:Env w)(hO:Byts 32 O)(hP:Byts 32 P)(hEk:Byts 32 E)(hT:Byts 12 T)(hC0:Byts 32 C0)(hH0:Byts 32 H0)(hzE:shZ E P=true)(hz:shZ O P=false)(hBeg:∀u,Env u→Calls prog 78 #[.agg (WA .u8 32 P)] u fun e w'=>∃b,u.heap.size≤b∧e=.returned (.pointer (some ⟨b,0,none⟩))∧KtAt w' b H0 C0 (fun _=>0)∧Below u.heap.size u w'):Calls prog 36 #[.agg (WA .u8 32 O),.agg (WA .u8 32 P),.agg (WA .u8 32 E),.agg (WA .u8 12 T),.int .u32 ix] w fun e w'=>e=gup 18∧Below w.heap.size w w':=by
 have h:=Iu O P E T H0 C0 ix w hE hO hP hEk hT hC0 hH0 hBeg;unfold GQ at h;rw[if_neg (fun h=>by rw[hz] at h;exact absurd h.2 (by decide))] at h;exact h
set_option linter.unusedVariables false in
theorem XE(O P E T H0 C0:Nat→Int)(ix:Int)(w:World)(hE:Env w)(hO:Byts 32 O)(hP:Byts 32 P)(hEk:Byts 32 E)(hT:Byts 12 T)(hC0:Byts 32 C0)(hH0:Byts 32 H0)(hzE:shZ E P=true)(hzO:shZ O P=true)(hBeg:∀u,Env u→Calls prog 78 #[.agg (WA .u8 32 P)] u fun e w'=>∃b,u.heap.size≤b∧e=.returned (.pointer (some ⟨b,0,none⟩))∧KtAt w' b H0 C0 (fun _=>0)∧Below u.heap.size u w'):Calls prog 36 #[.agg (WA .u8 32 O),.agg (WA .u8 32 P),.agg (WA .u8 32 E),.agg (WA .u8 12 T),.int .u32 ix] w fun e w'=>e=.returned (.tuple #[.string (AaK O P E T H0 C0 ix),.agg (SC 162 (Cl (Xm O P E T H0 C0) (Um O P E C0 0) E (fun _=>0) P ix 0))])∧Below w.heap.size w w':=by
 have h:=Iu O P E T H0 C0 ix w hE hO hP hEk hT hC0 hH0 hBeg;unfold GQ at h;rw[if_pos ⟨hzE,hzO⟩] at h;exact h
theorem Hr{key nonce:Nat→Int}{box beside:ByteArray}(h:(Bc key nonce box beside).2=0):(Bc key nonce box beside).1.size=box.size-16:=by
 unfold Bc at h ⊢
 split at h
 ·rename_i hc
  rw[if_pos hc];show (Bt key nonce (box.extract 0 (box.size-16))).size=_;unfold Bt;rw[Ar,ByteArray.size_extract];omega
 ·exact absurd h (by decide)
theorem Zx(w:World):(zeroValue 26).run prog w=.ok (.agg (WA .u8 12 fun _=>0)) w:=by kernel_rfl
theorem EX{ops:Array Oper}{rest:List Oper}{d:Option Tmp}{t:TypeId}{ps:String}{af:Array Edge}{a:Act}{w:World}{Q:Exit→Act→World→Prop}(h:∀w',ArrAt w' w.heap.size .u8 26 12 (fun _=>0)→Below w.heap.size w w'→wpList prog ops Q rest (a.put d (.pointer (some ⟨w.heap.size,0,none⟩))) w'):wpList prog ops Q ({ dst:=d,op:=.alloc 26,type:=t,pos:=ps,after:=af,guard:=none }::rest) a w:=
 CZ rfl (Bi Zx rfl (fun w' hb hg=>h w' hg hb))
set_option linter.unusedVariables false in
theorem GR(O H0 C0:Nat→Int)(m:ByteArray)(w:World)(hE:Env w)(hO:Byts 32 O)(hC0:Byts 32 C0)(hH0:Byts 32 H0)(hm:¬(m.size=148∧CR m 0 4=1))(hBeg:∀u,Env u→Calls prog 78 #[.agg (WA .u8 32 (BT O))] u fun e w'=>∃b,u.heap.size≤b∧e=.returned (.pointer (some ⟨b,0,none⟩))∧KtAt w' b H0 C0 (fun _=>0)∧Below u.heap.size u w'):Calls prog 46 #[.agg (WA .u8 32 O),.string m] w fun e w'=>e=gup (if m.size=148 then 11 else 10)∧Below w.heap.size w w':=by
 have g0:ArrAt (((w.alloc (.cells (WA .u8 32 O) 22)).alloc (.cells zeroCells31 31)).alloc (.cells (WA .u8 12 (fun _=>0)) 26)) w.heap.size .u8 22 32 O:=A6 w _ _ _
 have gH:SAt (((w.alloc (.cells (WA .u8 32 O) 22)).alloc (.cells zeroCells31 31)).alloc (.cells (WA .u8 12 (fun _=>0)) 26)) (w.heap.size+1) 31 162 Bk:=by
  have h:=AB w (.cells (WA .u8 32 O) 22) (.cells zeroCells31 31) (.cells (WA .u8 12 (fun _=>0)) 26);unfold SAt;rw[←BU];exact h
 have gS:ArrAt (((w.alloc (.cells (WA .u8 32 O) 22)).alloc (.cells zeroCells31 31)).alloc (.cells (WA .u8 12 (fun _=>0)) 26)) (w.heap.size+1+1) .u8 26 12 (fun _=>0):=AK w _ _ _;have hB:Below w.heap.size w (((w.alloc (.cells (WA .u8 32 O) 22)).alloc (.cells zeroCells31 31)).alloc (.cells (WA .u8 12 (fun _=>0)) 26)):=(((Below.refl _ w).alloc (by simp) _).alloc (by simp) _).alloc (by simp;omega) _;replace hE:=hE.kept hB;go_enter func46,ntmps46;go_wp2_with fail;refine(X9 m _ hm).mono ?_;rintro x v1 ⟨rfl,hb⟩;exact⟨rfl,rfl,hB.trans (hb.mono hB.size)⟩
set_option linter.unusedVariables false in
theorem Uz(O H0 C0:Nat→Int)(m:ByteArray)(w:World)(hE:Env w)(hO:Byts 32 O)(hC0:Byts 32 C0)(hH0:Byts 32 H0)(hm:m.size=148)(hk:CR m 0 4=1)(hz1:shZ O (acE m)=false)(hBeg:∀u,Env u→Calls prog 78 #[.agg (WA .u8 32 (BT O))] u fun e w'=>∃b,u.heap.size≤b∧e=.returned (.pointer (some ⟨b,0,none⟩))∧KtAt w' b H0 C0 (fun _=>0)∧Below u.heap.size u w'):Calls prog 46 #[.agg (WA .u8 32 O),.string m] w fun e w'=>e=gup 18∧Below w.heap.size w w':=by
 have g0:ArrAt (((w.alloc (.cells (WA .u8 32 O) 22)).alloc (.cells zeroCells31 31)).alloc (.cells (WA .u8 12 (fun _=>0)) 26)) w.heap.size .u8 22 32 O:=A6 w _ _ _
 have gH:SAt (((w.alloc (.cells (WA .u8 32 O) 22)).alloc (.cells zeroCells31 31)).alloc (.cells (WA .u8 12 (fun _=>0)) 26)) (w.heap.size+1) 31 162 Bk:=by
  have h:=AB w (.cells (WA .u8 32 O) 22) (.cells zeroCells31 31) (.cells (WA .u8 12 (fun _=>0)) 26);unfold SAt;rw[←BU];exact h
 have gS:ArrAt (((w.alloc (.cells (WA .u8 32 O) 22)).alloc (.cells zeroCells31 31)).alloc (.cells (WA .u8 12 (fun _=>0)) 26)) (w.heap.size+1+1) .u8 26 12 (fun _=>0):=AK w _ _ _;have hB:Below w.heap.size w (((w.alloc (.cells (WA .u8 32 O) 22)).alloc (.cells zeroCells31 31)).alloc (.cells (WA .u8 12 (fun _=>0)) 26)):=(((Below.refl _ w).alloc (by simp) _).alloc (by simp) _).alloc (by simp;omega) _;replace hE:=hE.kept hB;go_enter func46,ntmps46;go_wp2_with fail;refine(GO m _ hm hk).mono ?_;rintro x v1 ⟨rfl,hb⟩;replace g0:=g0.kept hb;replace gH:=gH.kept hb;replace gS:=gS.kept hb;replace hE:=hE.kept hb;replace hB:=hB.trans (hb.mono hB.size);clear hb;have hes:(m.extract 8 40).size=32:=by rw[ByteArray.size_extract];omega
 have hks:(m.extract 40 88).size=48:=by rw[ByteArray.size_extract];omega
 have hsx:(m.extract 88 116).size=28:=by rw[ByteArray.size_extract];omega
 obtain⟨E,hEe⟩:∃X,txt (m.extract 8 40)=X:=⟨_,rfl⟩;have hEb:Byts 32 E:=fun j _=>hEe▸Bn _ j
 have hem:mkS 32 E=m.extract 8 40:=by rw[←hEe,←hes];exact CE _
 obtain⟨kx,hkx⟩:∃X,m.extract 40 88=X:=⟨_,rfl⟩;obtain⟨sx,hsxe⟩:∃X,m.extract 88 116=X:=⟨_,rfl⟩;obtain⟨n4,hn4⟩:∃X,CR m 4 4=X:=⟨_,rfl⟩;rw[hEe,hkx,hsxe,hn4];rw[hkx] at hks;rw[hsxe] at hsx;have lag0:=g0.lt;have lagH:=gH.lt;have lagS:=gS.lt;have laB:=hB.size;have laE:=hE.two
 go_wp2_with (refine E8 ?_;intro v2 gi0 hb;refine Hid.out ?_)
 replace g0:=g0.kept hb;replace gH:=gH.kept hb;replace gS:=gS.kept hb;replace hE:=hE.kept hb;replace hB:=hB.trans (hb.mono hB.size);clear hb;refine Hid.mk ?_
 go_wp2_with (refine En Gg (EW _ _ _ _) gi0 (by rfl) (by rfl) ?_;intro v3 gi o6;refine Hid.out ?_)
 replace g0:=g0.only o6 (by omega);replace gH:=gH.only o6 (by omega);replace gS:=gS.only o6 (by omega);replace hE:=hE.only o6 (by omega);replace hB:=hB.trans (o6.below (by omega));clear o6;clear gi0;refine Hid.mk ?_;obtain⟨bi,hbi⟩:∃bi,v1.heap.size=bi:=⟨_,rfl⟩;rw[hbi] at gi lag0 lagH lagS laB laE ⊢;clear hbi;have HP:=Hid.mk hE.2
 go_wp2_with (refine Aq Af g0 (by rfl) ?_)
 refine(Dz O _ HP.out hO).mono ?_;rintro x v4 ⟨rfl,hb⟩;replace g0:=g0.kept hb;replace gH:=gH.kept hb;replace gS:=gS.kept hb;replace gi:=gi.kept hb;replace hE:=hE.kept hb;replace hB:=hB.trans (hb.mono hB.size);clear hb;clear HP;have lcg0:=g0.lt;have lcgH:=gH.lt;have lcgS:=gS.lt;have lcgi:=gi.lt;have lcB:=hB.size;have lcE:=hE.two;go_wp2_with fail;refine(hBeg _ hE).mono ?_;rintro x v5 ⟨b,hbb,rfl,g,hb⟩;have hb3:3≤b:=by omega
 have hbS:w.heap.size≤b:=by omega
 replace g0:=g0.kept hb;replace gH:=gH.kept hb;replace gS:=gS.kept hb;replace gi:=gi.kept hb;replace hE:=hE.kept hb;replace hB:=hB.trans (hb.mono hB.size);clear hb;clear hBeg;have hre:=Gk gi
 go_wp2_with (refine Ae rfl (Ao rfl Af (by rfl) hre) ?_)
 refine(Co b H0 C0 _ E _ hE hb3 g hH0 hC0 hEb).mono ?_;rintro x v6 ⟨rfl,g',t1⟩;replace g0:=g0.tou t1 (by omega);replace gH:=gH.tou t1 (by omega);replace gS:=gS.tou t1 (by omega);replace gi:=gi.tou t1 (by omega);replace hE:=hE.touch t1 hb3;replace hB:=AU hB t1 hbS (Acg _);clear t1;clear g hre;have g:=g';clear g';rw[hem] at g;have hC1:Byts 32 (chn C0 (m.extract 8 40) 0):=Dr _ _ 0 32;have hH1:Byts 32 (BX H0 (m.extract 8 40)):=C6 _ _ 32;obtain⟨C1,hC1e⟩:∃X,chn C0 (m.extract 8 40) 0=X:=⟨_,rfl⟩;obtain⟨H1,hH1e⟩:∃X,BX H0 (m.extract 8 40)=X:=⟨_,rfl⟩;rw[hC1e] at g hC1;rw[hH1e] at g hH1;have hmf:∀(fn:Fn) (first cap:Array Value) (w:World),(Instr.makeFunc fn first cap).run prog w=.ok (.func fn first cap) w:=fun _ _ _ _=>rfl
 have hre:=Gk gi
 go_wp2_with (first|(refine Aq Af g0 (by rfl) ?_)|(refine Ae rfl (Ao rfl Af (by rfl) hre) ?_))
 have hz:shZ O E=false:=by rw[←hEe];exact hz1
 refine(Hp _ O E _ hE hO hEb hz).mono ?_;rintro x v9 ⟨rfl,hb⟩;exact⟨rfl,rfl,hB.trans (hb.mono hB.size)⟩
set_option linter.unusedVariables false in
theorem U0(O H0 C0:Nat→Int)(m:ByteArray)(w:World)(hE:Env w)(hO:Byts 32 O)(hC0:Byts 32 C0)(hH0:Byts 32 H0)(hm:m.size=148)(hk:CR m 0 4=1)(hz1:shZ O (acE m)=true)(hz2:¬(acP O H0 C0 m).2=0)(hBeg:∀u,Env u→Calls prog 78 #[.agg (WA .u8 32 (BT O))] u fun e w'=>∃b,u.heap.size≤b∧e=.returned (.pointer (some ⟨b,0,none⟩))∧KtAt w' b H0 C0 (fun _=>0)∧Below u.heap.size u w'):Calls prog 46 #[.agg (WA .u8 32 O),.string m] w fun e w'=>e=gup 13∧Below w.heap.size w w':=by
 have g0:ArrAt (((w.alloc (.cells (WA .u8 32 O) 22)).alloc (.cells zeroCells31 31)).alloc (.cells (WA .u8 12 (fun _=>0)) 26)) w.heap.size .u8 22 32 O:=A6 w _ _ _
 have gH:SAt (((w.alloc (.cells (WA .u8 32 O) 22)).alloc (.cells zeroCells31 31)).alloc (.cells (WA .u8 12 (fun _=>0)) 26)) (w.heap.size+1) 31 162 Bk:=by
  have h:=AB w (.cells (WA .u8 32 O) 22) (.cells zeroCells31 31) (.cells (WA .u8 12 (fun _=>0)) 26);unfold SAt;rw[←BU];exact h
 have gS:ArrAt (((w.alloc (.cells (WA .u8 32 O) 22)).alloc (.cells zeroCells31 31)).alloc (.cells (WA .u8 12 (fun _=>0)) 26)) (w.heap.size+1+1) .u8 26 12 (fun _=>0):=AK w _ _ _;have hB:Below w.heap.size w (((w.alloc (.cells (WA .u8 32 O) 22)).alloc (.cells zeroCells31 31)).alloc (.cells (WA .u8 12 (fun _=>0)) 26)):=(((Below.refl _ w).alloc (by simp) _).alloc (by simp) _).alloc (by simp;omega) _;replace hE:=hE.kept hB;go_enter func46,ntmps46;go_wp2_with fail;refine(GO m _ hm hk).mono ?_;rintro x v1 ⟨rfl,hb⟩;replace g0:=g0.kept hb;replace gH:=gH.kept hb;replace gS:=gS.kept hb;replace hE:=hE.kept hb;replace hB:=hB.trans (hb.mono hB.size);clear hb;have hes:(m.extract 8 40).size=32:=by rw[ByteArray.size_extract];omega
 have hks:(m.extract 40 88).size=48:=by rw[ByteArray.size_extract];omega
 have hsx:(m.extract 88 116).size=28:=by rw[ByteArray.size_extract];omega
 obtain⟨E,hEe⟩:∃X,txt (m.extract 8 40)=X:=⟨_,rfl⟩;have hEb:Byts 32 E:=fun j _=>hEe▸Bn _ j
 have hem:mkS 32 E=m.extract 8 40:=by rw[←hEe,←hes];exact CE _
 obtain⟨kx,hkx⟩:∃X,m.extract 40 88=X:=⟨_,rfl⟩;obtain⟨sx,hsxe⟩:∃X,m.extract 88 116=X:=⟨_,rfl⟩;obtain⟨n4,hn4⟩:∃X,CR m 4 4=X:=⟨_,rfl⟩;rw[hEe,hkx,hsxe,hn4];rw[hkx] at hks;rw[hsxe] at hsx;have lag0:=g0.lt;have lagH:=gH.lt;have lagS:=gS.lt;have laB:=hB.size;have laE:=hE.two
 go_wp2_with (refine E8 ?_;intro v2 gi0 hb;refine Hid.out ?_)
 replace g0:=g0.kept hb;replace gH:=gH.kept hb;replace gS:=gS.kept hb;replace hE:=hE.kept hb;replace hB:=hB.trans (hb.mono hB.size);clear hb;refine Hid.mk ?_
 go_wp2_with (refine En Gg (EW _ _ _ _) gi0 (by rfl) (by rfl) ?_;intro v3 gi o6;refine Hid.out ?_)
 replace g0:=g0.only o6 (by omega);replace gH:=gH.only o6 (by omega);replace gS:=gS.only o6 (by omega);replace hE:=hE.only o6 (by omega);replace hB:=hB.trans (o6.below (by omega));clear o6;clear gi0;refine Hid.mk ?_;obtain⟨bi,hbi⟩:∃bi,v1.heap.size=bi:=⟨_,rfl⟩;rw[hbi] at gi lag0 lagH lagS laB laE ⊢;clear hbi;have HP:=Hid.mk hE.2
 go_wp2_with (refine Aq Af g0 (by rfl) ?_)
 refine(Dz O _ HP.out hO).mono ?_;rintro x v4 ⟨rfl,hb⟩;replace g0:=g0.kept hb;replace gH:=gH.kept hb;replace gS:=gS.kept hb;replace gi:=gi.kept hb;replace hE:=hE.kept hb;replace hB:=hB.trans (hb.mono hB.size);clear hb;clear HP;have lcg0:=g0.lt;have lcgH:=gH.lt;have lcgS:=gS.lt;have lcgi:=gi.lt;have lcB:=hB.size;have lcE:=hE.two;go_wp2_with fail;refine(hBeg _ hE).mono ?_;rintro x v5 ⟨b,hbb,rfl,g,hb⟩;have hb3:3≤b:=by omega
 have hbS:w.heap.size≤b:=by omega
 replace g0:=g0.kept hb;replace gH:=gH.kept hb;replace gS:=gS.kept hb;replace gi:=gi.kept hb;replace hE:=hE.kept hb;replace hB:=hB.trans (hb.mono hB.size);clear hb;clear hBeg;have hre:=Gk gi
 go_wp2_with (refine Ae rfl (Ao rfl Af (by rfl) hre) ?_)
 refine(Co b H0 C0 _ E _ hE hb3 g hH0 hC0 hEb).mono ?_;rintro x v6 ⟨rfl,g',t1⟩;replace g0:=g0.tou t1 (by omega);replace gH:=gH.tou t1 (by omega);replace gS:=gS.tou t1 (by omega);replace gi:=gi.tou t1 (by omega);replace hE:=hE.touch t1 hb3;replace hB:=AU hB t1 hbS (Acg _);clear t1;clear g hre;have g:=g';clear g';rw[hem] at g;have hC1:Byts 32 (chn C0 (m.extract 8 40) 0):=Dr _ _ 0 32;have hH1:Byts 32 (BX H0 (m.extract 8 40)):=C6 _ _ 32;obtain⟨C1,hC1e⟩:∃X,chn C0 (m.extract 8 40) 0=X:=⟨_,rfl⟩;obtain⟨H1,hH1e⟩:∃X,BX H0 (m.extract 8 40)=X:=⟨_,rfl⟩;rw[hC1e] at g hC1;rw[hH1e] at g hH1;have hmf:∀(fn:Fn) (first cap:Array Value) (w:World),(Instr.makeFunc fn first cap).run prog w=.ok (.func fn first cap) w:=fun _ _ _ _=>rfl
 have hre:=Gk gi
 go_wp2_with (first|(refine Aq Af g0 (by rfl) ?_)|(refine Ae rfl (Ao rfl Af (by rfl) hre) ?_))
 have hzE:shZ O E=true:=by rw[←hEe];exact hz1
 refine(Ce b H1 C1 _ O E _ hE g hC1 hO hEb hzE).mono ?_;rintro x v7 ⟨rfl,g',t1⟩;replace g0:=g0.tou t1 (by omega);replace gH:=gH.tou t1 (by omega);replace gS:=gS.tou t1 (by omega);replace gi:=gi.tou t1 (by omega);replace hE:=hE.touch t1 hb3;replace hB:=AU hB t1 hbS (Acg _);clear t1;clear g;have g:=g';clear g';obtain⟨L,hLe⟩:∃X,chn C1 (mkS 32 (shF O E))=X:=⟨_,rfl⟩;have hL:∀i,Byts 32 (L i):=fun i=>hLe▸Dr _ _ i 32
 rw[hLe] at g;have hcl:_:=gi.at 33 (by omega);replace hcl:_=some (Value.string kx):=hcl;go_wp2_with fail;have hPe:Bc (L 1) B9 kx (mkS 32 H1)=acP O H0 C0 m:=by simp only[acP,acL,Jh,acE,hkx,hEe,hC1e,hH1e,hLe]
 have hzp:¬(Bc (L 1) B9 kx (mkS 32 H1)).2=0:=by rw[hPe];exact hz2
 refine(Se b H1 (L 0) (L 1) kx _ hE hb3 g hH1 (hL 1) (by omega) hzp).mono ?_;rintro x v9 ⟨rfl,t1⟩;exact⟨rfl,rfl,AU hB t1 hbS (Acg _)⟩
set_option linter.unusedVariables false in
theorem U1(O H0 C0:Nat→Int)(m:ByteArray)(w:World)(hE:Env w)(hO:Byts 32 O)(hC0:Byts 32 C0)(hH0:Byts 32 H0)(hm:m.size=148)(hk:CR m 0 4=1)(hz1:shZ O (acE m)=true)(hz2:(acP O H0 C0 m).2=0)(hz3:shZ O (acK O H0 C0 m)=false)(hBeg:∀u,Env u→Calls prog 78 #[.agg (WA .u8 32 (BT O))] u fun e w'=>∃b,u.heap.size≤b∧e=.returned (.pointer (some ⟨b,0,none⟩))∧KtAt w' b H0 C0 (fun _=>0)∧Below u.heap.size u w'):Calls prog 46 #[.agg (WA .u8 32 O),.string m] w fun e w'=>e=gup 18∧Below w.heap.size w w':=by
 have g0:ArrAt (((w.alloc (.cells (WA .u8 32 O) 22)).alloc (.cells zeroCells31 31)).alloc (.cells (WA .u8 12 (fun _=>0)) 26)) w.heap.size .u8 22 32 O:=A6 w _ _ _
 have gH:SAt (((w.alloc (.cells (WA .u8 32 O) 22)).alloc (.cells zeroCells31 31)).alloc (.cells (WA .u8 12 (fun _=>0)) 26)) (w.heap.size+1) 31 162 Bk:=by
  have h:=AB w (.cells (WA .u8 32 O) 22) (.cells zeroCells31 31) (.cells (WA .u8 12 (fun _=>0)) 26);unfold SAt;rw[←BU];exact h
 have gS:ArrAt (((w.alloc (.cells (WA .u8 32 O) 22)).alloc (.cells zeroCells31 31)).alloc (.cells (WA .u8 12 (fun _=>0)) 26)) (w.heap.size+1+1) .u8 26 12 (fun _=>0):=AK w _ _ _;have hB:Below w.heap.size w (((w.alloc (.cells (WA .u8 32 O) 22)).alloc (.cells zeroCells31 31)).alloc (.cells (WA .u8 12 (fun _=>0)) 26)):=(((Below.refl _ w).alloc (by simp) _).alloc (by simp) _).alloc (by simp;omega) _;replace hE:=hE.kept hB;go_enter func46,ntmps46;go_wp2_with fail;refine(GO m _ hm hk).mono ?_;rintro x v1 ⟨rfl,hb⟩;replace g0:=g0.kept hb;replace gH:=gH.kept hb;replace gS:=gS.kept hb;replace hE:=hE.kept hb;replace hB:=hB.trans (hb.mono hB.size);clear hb;have hes:(m.extract 8 40).size=32:=by rw[ByteArray.size_extract];omega
 have hks:(m.extract 40 88).size=48:=by rw[ByteArray.size_extract];omega
 have hsx:(m.extract 88 116).size=28:=by rw[ByteArray.size_extract];omega
 obtain⟨E,hEe⟩:∃X,txt (m.extract 8 40)=X:=⟨_,rfl⟩;have hEb:Byts 32 E:=fun j _=>hEe▸Bn _ j
 have hem:mkS 32 E=m.extract 8 40:=by rw[←hEe,←hes];exact CE _
 obtain⟨kx,hkx⟩:∃X,m.extract 40 88=X:=⟨_,rfl⟩;obtain⟨sx,hsxe⟩:∃X,m.extract 88 116=X:=⟨_,rfl⟩;obtain⟨n4,hn4⟩:∃X,CR m 4 4=X:=⟨_,rfl⟩;rw[hEe,hkx,hsxe,hn4];rw[hkx] at hks;rw[hsxe] at hsx;have lag0:=g0.lt;have lagH:=gH.lt;have lagS:=gS.lt;have laB:=hB.size;have laE:=hE.two
 go_wp2_with (refine E8 ?_;intro v2 gi0 hb;refine Hid.out ?_)
 replace g0:=g0.kept hb;replace gH:=gH.kept hb;replace gS:=gS.kept hb;replace hE:=hE.kept hb;replace hB:=hB.trans (hb.mono hB.size);clear hb;refine Hid.mk ?_
 go_wp2_with (refine En Gg (EW _ _ _ _) gi0 (by rfl) (by rfl) ?_;intro v3 gi o6;refine Hid.out ?_)
 replace g0:=g0.only o6 (by omega);replace gH:=gH.only o6 (by omega);replace gS:=gS.only o6 (by omega);replace hE:=hE.only o6 (by omega);replace hB:=hB.trans (o6.below (by omega));clear o6;clear gi0;refine Hid.mk ?_;obtain⟨bi,hbi⟩:∃bi,v1.heap.size=bi:=⟨_,rfl⟩;rw[hbi] at gi lag0 lagH lagS laB laE ⊢;clear hbi;have HP:=Hid.mk hE.2
 go_wp2_with (refine Aq Af g0 (by rfl) ?_)
 refine(Dz O _ HP.out hO).mono ?_;rintro x v4 ⟨rfl,hb⟩;replace g0:=g0.kept hb;replace gH:=gH.kept hb;replace gS:=gS.kept hb;replace gi:=gi.kept hb;replace hE:=hE.kept hb;replace hB:=hB.trans (hb.mono hB.size);clear hb;clear HP;have lcg0:=g0.lt;have lcgH:=gH.lt;have lcgS:=gS.lt;have lcgi:=gi.lt;have lcB:=hB.size;have lcE:=hE.two;go_wp2_with fail;refine(hBeg _ hE).mono ?_;rintro x v5 ⟨b,hbb,rfl,g,hb⟩;have hb3:3≤b:=by omega
 have hbS:w.heap.size≤b:=by omega
 replace g0:=g0.kept hb;replace gH:=gH.kept hb;replace gS:=gS.kept hb;replace gi:=gi.kept hb;replace hE:=hE.kept hb;replace hB:=hB.trans (hb.mono hB.size);clear hb;clear hBeg;have hre:=Gk gi
 go_wp2_with (refine Ae rfl (Ao rfl Af (by rfl) hre) ?_)
 refine(Co b H0 C0 _ E _ hE hb3 g hH0 hC0 hEb).mono ?_;rintro x v6 ⟨rfl,g',t1⟩;replace g0:=g0.tou t1 (by omega);replace gH:=gH.tou t1 (by omega);replace gS:=gS.tou t1 (by omega);replace gi:=gi.tou t1 (by omega);replace hE:=hE.touch t1 hb3;replace hB:=AU hB t1 hbS (Acg _);clear t1;clear g hre;have g:=g';clear g';rw[hem] at g;have hC1:Byts 32 (chn C0 (m.extract 8 40) 0):=Dr _ _ 0 32;have hH1:Byts 32 (BX H0 (m.extract 8 40)):=C6 _ _ 32;obtain⟨C1,hC1e⟩:∃X,chn C0 (m.extract 8 40) 0=X:=⟨_,rfl⟩;obtain⟨H1,hH1e⟩:∃X,BX H0 (m.extract 8 40)=X:=⟨_,rfl⟩;rw[hC1e] at g hC1;rw[hH1e] at g hH1;have hmf:∀(fn:Fn) (first cap:Array Value) (w:World),(Instr.makeFunc fn first cap).run prog w=.ok (.func fn first cap) w:=fun _ _ _ _=>rfl
 have hre:=Gk gi
 go_wp2_with (first|(refine Aq Af g0 (by rfl) ?_)|(refine Ae rfl (Ao rfl Af (by rfl) hre) ?_))
 have hzE:shZ O E=true:=by rw[←hEe];exact hz1
 refine(Ce b H1 C1 _ O E _ hE g hC1 hO hEb hzE).mono ?_;rintro x v7 ⟨rfl,g',t1⟩;replace g0:=g0.tou t1 (by omega);replace gH:=gH.tou t1 (by omega);replace gS:=gS.tou t1 (by omega);replace gi:=gi.tou t1 (by omega);replace hE:=hE.touch t1 hb3;replace hB:=AU hB t1 hbS (Acg _);clear t1;clear g;have g:=g';clear g';obtain⟨L,hLe⟩:∃X,chn C1 (mkS 32 (shF O E))=X:=⟨_,rfl⟩;have hL:∀i,Byts 32 (L i):=fun i=>hLe▸Dr _ _ i 32
 rw[hLe] at g;have hcl:_:=gi.at 33 (by omega);replace hcl:_=some (Value.string kx):=hcl;go_wp2_with fail;have hPe:Bc (L 1) B9 kx (mkS 32 H1)=acP O H0 C0 m:=by simp only[acP,acL,Jh,acE,hkx,hEe,hC1e,hH1e,hLe]
 have hzp:(Bc (L 1) B9 kx (mkS 32 H1)).2=0:=by rw[hPe];exact hz2
 refine(K8 b H1 (L 0) (L 1) kx _ hE hb3 g hH1 (hL 1) (by omega) hzp).mono ?_;rintro x v8 ⟨rfl,g',t1⟩;replace g0:=g0.tou t1 (by omega);replace gH:=gH.tou t1 (by omega);replace gS:=gS.tou t1 (by omega);replace gi:=gi.tou t1 (by omega);replace hE:=hE.touch t1 hb3;replace hB:=AU hB t1 hbS (Acg _);clear t1;clear g hcl;have g:=g';clear g';obtain⟨H2,hH2e⟩:∃X,BX H1 kx=X:=⟨_,rfl⟩;rw[hH2e] at g;have hH2:Byts 32 H2:=hH2e▸C6 _ _ 32;have hps:(Bc (L 1) B9 kx (mkS 32 H1)).1.size=32:=by rw[Hr hzp];omega
 obtain⟨p,hpe⟩:∃X,(Bc (L 1) B9 kx (mkS 32 H1)).1=X:=⟨_,rfl⟩;rw[hpe] at hps ⊢;go_wp2_with fail;have hpx:p.extract 0 (0+32)=p:=by rw[Acl,←hps];exact ByteArray.extract_zero_size
 refine(Hn p 0 _ (by omega) (by omega)).mono ?_;rintro x v9 ⟨rfl,hb⟩;replace g0:=g0.kept hb;replace gH:=gH.kept hb;replace gS:=gS.kept hb;replace gi:=gi.kept hb;replace g:=g.kept hb;replace hE:=hE.kept hb;replace hB:=hB.trans (hb.mono hB.size);clear hb;rw[hpx];have hKb:Byts 32 (txt p):=fun j _=>Bn _ j
 obtain⟨Q,hQ⟩:∃X,txt p=X:=⟨_,rfl⟩;rw[hQ] at hKb ⊢;have ldg0:=g0.lt;have ldgH:=gH.lt;have ldgS:=gS.lt;have ldgi:=gi.lt;have ldg:=g.lt;have ldB:=hB.size;have ldE:=hE.two
 go_wp2_with (refine D1 ?_;intro v10a gp0 hb;refine Hid.out ?_)
 replace g0:=g0.kept hb;replace gH:=gH.kept hb;replace gS:=gS.kept hb;replace gi:=gi.kept hb;replace g:=g.kept hb;replace hE:=hE.kept hb;replace hB:=hB.trans (hb.mono hB.size);clear hb;refine Hid.mk ?_
 go_wp2_with (refine A1 Af gp0 (by rfl) (by rfl) ?_;intro v10b gp o6;refine Hid.out ?_)
 replace g0:=g0.only o6 (by omega);replace gH:=gH.only o6 (by omega);replace gS:=gS.only o6 (by omega);replace gi:=gi.only o6 (by omega);replace g:=g.only o6 (by omega);replace hE:=hE.only o6 (by omega);replace hB:=hB.trans (o6.below (by omega));clear o6;clear gp0;refine Hid.mk ?_;obtain⟨bp,hbp⟩:∃bp,v9.heap.size=bp:=⟨_,rfl⟩;rw[hbp] at gp ldg0 ldgH ldgS ldgi ldg ldB ldE ⊢;clear hbp
 go_wp2_with (first|(refine Aq Af g0 (by rfl) ?_)|(refine Aq Af gp (by rfl) ?_))
 have hQb:=hKb;have hKe:Q=acK O H0 C0 m:=by rw[←hQ,←hpe,hPe];rfl
 have hz:shZ O Q=false:=by rw[hKe];exact hz3
 refine(Hp _ O Q _ hE hO hQb hz).mono ?_;rintro x v9 ⟨rfl,hb⟩;exact⟨rfl,rfl,hB.trans (hb.mono hB.size)⟩
set_option linter.unusedVariables false in
theorem U2(O H0 C0:Nat→Int)(m:ByteArray)(w:World)(hE:Env w)(hO:Byts 32 O)(hC0:Byts 32 C0)(hH0:Byts 32 H0)(hm:m.size=148)(hk:CR m 0 4=1)(hz1:shZ O (acE m)=true)(hz2:(acP O H0 C0 m).2=0)(hz3:shZ O (acK O H0 C0 m)=true)(hz4:¬(acT O H0 C0 m).2=0)(hBeg:∀u,Env u→Calls prog 78 #[.agg (WA .u8 32 (BT O))] u fun e w'=>∃b,u.heap.size≤b∧e=.returned (.pointer (some ⟨b,0,none⟩))∧KtAt w' b H0 C0 (fun _=>0)∧Below u.heap.size u w'):Calls prog 46 #[.agg (WA .u8 32 O),.string m] w fun e w'=>e=gup 13∧Below w.heap.size w w':=by
 have g0:ArrAt (((w.alloc (.cells (WA .u8 32 O) 22)).alloc (.cells zeroCells31 31)).alloc (.cells (WA .u8 12 (fun _=>0)) 26)) w.heap.size .u8 22 32 O:=A6 w _ _ _
 have gH:SAt (((w.alloc (.cells (WA .u8 32 O) 22)).alloc (.cells zeroCells31 31)).alloc (.cells (WA .u8 12 (fun _=>0)) 26)) (w.heap.size+1) 31 162 Bk:=by
  have h:=AB w (.cells (WA .u8 32 O) 22) (.cells zeroCells31 31) (.cells (WA .u8 12 (fun _=>0)) 26);unfold SAt;rw[←BU];exact h
 have gS:ArrAt (((w.alloc (.cells (WA .u8 32 O) 22)).alloc (.cells zeroCells31 31)).alloc (.cells (WA .u8 12 (fun _=>0)) 26)) (w.heap.size+1+1) .u8 26 12 (fun _=>0):=AK w _ _ _;have hB:Below w.heap.size w (((w.alloc (.cells (WA .u8 32 O) 22)).alloc (.cells zeroCells31 31)).alloc (.cells (WA .u8 12 (fun _=>0)) 26)):=(((Below.refl _ w).alloc (by simp) _).alloc (by simp) _).alloc (by simp;omega) _;replace hE:=hE.kept hB;go_enter func46,ntmps46;go_wp2_with fail;refine(GO m _ hm hk).mono ?_;rintro x v1 ⟨rfl,hb⟩;replace g0:=g0.kept hb;replace gH:=gH.kept hb;replace gS:=gS.kept hb;replace hE:=hE.kept hb;replace hB:=hB.trans (hb.mono hB.size);clear hb;have hes:(m.extract 8 40).size=32:=by rw[ByteArray.size_extract];omega
 have hks:(m.extract 40 88).size=48:=by rw[ByteArray.size_extract];omega
 have hsx:(m.extract 88 116).size=28:=by rw[ByteArray.size_extract];omega
 obtain⟨E,hEe⟩:∃X,txt (m.extract 8 40)=X:=⟨_,rfl⟩;have hEb:Byts 32 E:=fun j _=>hEe▸Bn _ j
 have hem:mkS 32 E=m.extract 8 40:=by rw[←hEe,←hes];exact CE _
 obtain⟨kx,hkx⟩:∃X,m.extract 40 88=X:=⟨_,rfl⟩;obtain⟨sx,hsxe⟩:∃X,m.extract 88 116=X:=⟨_,rfl⟩;obtain⟨n4,hn4⟩:∃X,CR m 4 4=X:=⟨_,rfl⟩;rw[hEe,hkx,hsxe,hn4];rw[hkx] at hks;rw[hsxe] at hsx;have lag0:=g0.lt;have lagH:=gH.lt;have lagS:=gS.lt;have laB:=hB.size;have laE:=hE.two
 go_wp2_with (refine E8 ?_;intro v2 gi0 hb;refine Hid.out ?_)
 replace g0:=g0.kept hb;replace gH:=gH.kept hb;replace gS:=gS.kept hb;replace hE:=hE.kept hb;replace hB:=hB.trans (hb.mono hB.size);clear hb;refine Hid.mk ?_
 go_wp2_with (refine En Gg (EW _ _ _ _) gi0 (by rfl) (by rfl) ?_;intro v3 gi o6;refine Hid.out ?_)
 replace g0:=g0.only o6 (by omega);replace gH:=gH.only o6 (by omega);replace gS:=gS.only o6 (by omega);replace hE:=hE.only o6 (by omega);replace hB:=hB.trans (o6.below (by omega));clear o6;clear gi0;refine Hid.mk ?_;obtain⟨bi,hbi⟩:∃bi,v1.heap.size=bi:=⟨_,rfl⟩;rw[hbi] at gi lag0 lagH lagS laB laE ⊢;clear hbi;have HP:=Hid.mk hE.2
 go_wp2_with (refine Aq Af g0 (by rfl) ?_)
 refine(Dz O _ HP.out hO).mono ?_;rintro x v4 ⟨rfl,hb⟩;replace g0:=g0.kept hb;replace gH:=gH.kept hb;replace gS:=gS.kept hb;replace gi:=gi.kept hb;replace hE:=hE.kept hb;replace hB:=hB.trans (hb.mono hB.size);clear hb;clear HP;have lcg0:=g0.lt;have lcgH:=gH.lt;have lcgS:=gS.lt;have lcgi:=gi.lt;have lcB:=hB.size;have lcE:=hE.two;go_wp2_with fail;refine(hBeg _ hE).mono ?_;rintro x v5 ⟨b,hbb,rfl,g,hb⟩;have hb3:3≤b:=by omega
 have hbS:w.heap.size≤b:=by omega
 replace g0:=g0.kept hb;replace gH:=gH.kept hb;replace gS:=gS.kept hb;replace gi:=gi.kept hb;replace hE:=hE.kept hb;replace hB:=hB.trans (hb.mono hB.size);clear hb;clear hBeg;have hre:=Gk gi
 go_wp2_with (refine Ae rfl (Ao rfl Af (by rfl) hre) ?_)
 refine(Co b H0 C0 _ E _ hE hb3 g hH0 hC0 hEb).mono ?_;rintro x v6 ⟨rfl,g',t1⟩;replace g0:=g0.tou t1 (by omega);replace gH:=gH.tou t1 (by omega);replace gS:=gS.tou t1 (by omega);replace gi:=gi.tou t1 (by omega);replace hE:=hE.touch t1 hb3;replace hB:=AU hB t1 hbS (Acg _);clear t1;clear g hre;have g:=g';clear g';rw[hem] at g;have hC1:Byts 32 (chn C0 (m.extract 8 40) 0):=Dr _ _ 0 32;have hH1:Byts 32 (BX H0 (m.extract 8 40)):=C6 _ _ 32;obtain⟨C1,hC1e⟩:∃X,chn C0 (m.extract 8 40) 0=X:=⟨_,rfl⟩;obtain⟨H1,hH1e⟩:∃X,BX H0 (m.extract 8 40)=X:=⟨_,rfl⟩;rw[hC1e] at g hC1;rw[hH1e] at g hH1;have hmf:∀(fn:Fn) (first cap:Array Value) (w:World),(Instr.makeFunc fn first cap).run prog w=.ok (.func fn first cap) w:=fun _ _ _ _=>rfl
 have hre:=Gk gi
 go_wp2_with (first|(refine Aq Af g0 (by rfl) ?_)|(refine Ae rfl (Ao rfl Af (by rfl) hre) ?_))
 have hzE:shZ O E=true:=by rw[←hEe];exact hz1
 refine(Ce b H1 C1 _ O E _ hE g hC1 hO hEb hzE).mono ?_;rintro x v7 ⟨rfl,g',t1⟩;replace g0:=g0.tou t1 (by omega);replace gH:=gH.tou t1 (by omega);replace gS:=gS.tou t1 (by omega);replace gi:=gi.tou t1 (by omega);replace hE:=hE.touch t1 hb3;replace hB:=AU hB t1 hbS (Acg _);clear t1;clear g;have g:=g';clear g';obtain⟨L,hLe⟩:∃X,chn C1 (mkS 32 (shF O E))=X:=⟨_,rfl⟩;have hL:∀i,Byts 32 (L i):=fun i=>hLe▸Dr _ _ i 32
 rw[hLe] at g;have hcl:_:=gi.at 33 (by omega);replace hcl:_=some (Value.string kx):=hcl;go_wp2_with fail;have hPe:Bc (L 1) B9 kx (mkS 32 H1)=acP O H0 C0 m:=by simp only[acP,acL,Jh,acE,hkx,hEe,hC1e,hH1e,hLe]
 have hzp:(Bc (L 1) B9 kx (mkS 32 H1)).2=0:=by rw[hPe];exact hz2
 refine(K8 b H1 (L 0) (L 1) kx _ hE hb3 g hH1 (hL 1) (by omega) hzp).mono ?_;rintro x v8 ⟨rfl,g',t1⟩;replace g0:=g0.tou t1 (by omega);replace gH:=gH.tou t1 (by omega);replace gS:=gS.tou t1 (by omega);replace gi:=gi.tou t1 (by omega);replace hE:=hE.touch t1 hb3;replace hB:=AU hB t1 hbS (Acg _);clear t1;clear g hcl;have g:=g';clear g';obtain⟨H2,hH2e⟩:∃X,BX H1 kx=X:=⟨_,rfl⟩;rw[hH2e] at g;have hH2:Byts 32 H2:=hH2e▸C6 _ _ 32;have hps:(Bc (L 1) B9 kx (mkS 32 H1)).1.size=32:=by rw[Hr hzp];omega
 obtain⟨p,hpe⟩:∃X,(Bc (L 1) B9 kx (mkS 32 H1)).1=X:=⟨_,rfl⟩;rw[hpe] at hps ⊢;go_wp2_with fail;have hpx:p.extract 0 (0+32)=p:=by rw[Acl,←hps];exact ByteArray.extract_zero_size
 refine(Hn p 0 _ (by omega) (by omega)).mono ?_;rintro x v9 ⟨rfl,hb⟩;replace g0:=g0.kept hb;replace gH:=gH.kept hb;replace gS:=gS.kept hb;replace gi:=gi.kept hb;replace g:=g.kept hb;replace hE:=hE.kept hb;replace hB:=hB.trans (hb.mono hB.size);clear hb;rw[hpx];have hKb:Byts 32 (txt p):=fun j _=>Bn _ j
 obtain⟨Q,hQ⟩:∃X,txt p=X:=⟨_,rfl⟩;rw[hQ] at hKb ⊢;have ldg0:=g0.lt;have ldgH:=gH.lt;have ldgS:=gS.lt;have ldgi:=gi.lt;have ldg:=g.lt;have ldB:=hB.size;have ldE:=hE.two
 go_wp2_with (refine D1 ?_;intro v10a gp0 hb;refine Hid.out ?_)
 replace g0:=g0.kept hb;replace gH:=gH.kept hb;replace gS:=gS.kept hb;replace gi:=gi.kept hb;replace g:=g.kept hb;replace hE:=hE.kept hb;replace hB:=hB.trans (hb.mono hB.size);clear hb;refine Hid.mk ?_
 go_wp2_with (refine A1 Af gp0 (by rfl) (by rfl) ?_;intro v10b gp o6;refine Hid.out ?_)
 replace g0:=g0.only o6 (by omega);replace gH:=gH.only o6 (by omega);replace gS:=gS.only o6 (by omega);replace gi:=gi.only o6 (by omega);replace g:=g.only o6 (by omega);replace hE:=hE.only o6 (by omega);replace hB:=hB.trans (o6.below (by omega));clear o6;clear gp0;refine Hid.mk ?_;obtain⟨bp,hbp⟩:∃bp,v9.heap.size=bp:=⟨_,rfl⟩;rw[hbp] at gp ldg0 ldgH ldgS ldgi ldg ldB ldE ⊢;clear hbp
 go_wp2_with (first|(refine Aq Af g0 (by rfl) ?_)|(refine Aq Af gp (by rfl) ?_))
 have hQb:=hKb;have hKe:Q=acK O H0 C0 m:=by rw[←hQ,←hpe,hPe];rfl
 have hzQ:shZ O Q=true:=by rw[hKe];exact hz3
 refine(Ce b H2 (L 0) _ O Q _ hE g (hL 0) hO hQb hzQ).mono ?_;rintro x v11 ⟨rfl,g',t1⟩;replace g0:=g0.tou t1 (by omega);replace gH:=gH.tou t1 (by omega);replace gS:=gS.tou t1 (by omega);replace gi:=gi.tou t1 (by omega);replace gp:=gp.tou t1 (by omega);replace hE:=hE.touch t1 hb3;replace hB:=AU hB t1 hbS (Acg _);clear t1;clear g;have g:=g';clear g';obtain⟨M,hMe⟩:∃X,chn (L 0) (mkS 32 (shF O Q))=X:=⟨_,rfl⟩;have hM:∀i,Byts 32 (M i):=fun i=>hMe▸Dr _ _ i 32
 rw[hMe] at g;have hcl:_:=gi.at 34 (by omega);replace hcl:_=some (Value.string sx):=hcl;go_wp2_with fail;have hTe:Bc (M 1) B9 sx (mkS 32 H2)=acT O H0 C0 m:=by simp only[acT,acM,acL,Mu,Jh,acE,hkx,hsxe,hEe,hC1e,hH1e,hLe,hH2e,←hKe,hMe]
 have hzt:¬(Bc (M 1) B9 sx (mkS 32 H2)).2=0:=by rw[hTe];exact hz4
 refine(Se b H2 (M 0) (M 1) sx _ hE hb3 g hH2 (hM 1) (by omega) hzt).mono ?_;rintro x v9 ⟨rfl,t1⟩;exact⟨rfl,rfl,AU hB t1 hbS (Acg _)⟩
set_option linter.unusedVariables false in
theorem U3(O H0 C0:Nat→Int)(m:ByteArray)(w:World)(hE:Env w)(hO:Byts 32 O)(hC0:Byts 32 C0)(hH0:Byts 32 H0)(hm:m.size=148)(hk:CR m 0 4=1)(hz1:shZ O (acE m)=true)(hz2:(acP O H0 C0 m).2=0)(hz3:shZ O (acK O H0 C0 m)=true)(hz4:(acT O H0 C0 m).2=0)(hBeg:∀u,Env u→Calls prog 78 #[.agg (WA .u8 32 (BT O))] u fun e w'=>∃b,u.heap.size≤b∧e=.returned (.pointer (some ⟨b,0,none⟩))∧KtAt w' b H0 C0 (fun _=>0)∧Below u.heap.size u w'):Calls prog 46 #[.agg (WA .u8 32 O),.string m] w fun e w'=>e=.returned (.tuple #[.agg (SC 162 (Cl (QZ H0 m) (acM O H0 C0 m 0) (fun _=>0) (acE m) (acK O H0 C0 m) 0 (CR m 4 4))),.agg (WA .u8 12 (txt (acT O H0 C0 m).1))])∧Below w.heap.size w w':=by
 have g0:ArrAt (((w.alloc (.cells (WA .u8 32 O) 22)).alloc (.cells zeroCells31 31)).alloc (.cells (WA .u8 12 (fun _=>0)) 26)) w.heap.size .u8 22 32 O:=A6 w _ _ _
 have gH:SAt (((w.alloc (.cells (WA .u8 32 O) 22)).alloc (.cells zeroCells31 31)).alloc (.cells (WA .u8 12 (fun _=>0)) 26)) (w.heap.size+1) 31 162 Bk:=by
  have h:=AB w (.cells (WA .u8 32 O) 22) (.cells zeroCells31 31) (.cells (WA .u8 12 (fun _=>0)) 26);unfold SAt;rw[←BU];exact h
 have gS:ArrAt (((w.alloc (.cells (WA .u8 32 O) 22)).alloc (.cells zeroCells31 31)).alloc (.cells (WA .u8 12 (fun _=>0)) 26)) (w.heap.size+1+1) .u8 26 12 (fun _=>0):=AK w _ _ _;have hB:Below w.heap.size w (((w.alloc (.cells (WA .u8 32 O) 22)).alloc (.cells zeroCells31 31)).alloc (.cells (WA .u8 12 (fun _=>0)) 26)):=(((Below.refl _ w).alloc (by simp) _).alloc (by simp) _).alloc (by simp;omega) _;replace hE:=hE.kept hB;go_enter func46,ntmps46;go_wp2_with fail;refine(GO m _ hm hk).mono ?_;rintro x v1 ⟨rfl,hb⟩;replace g0:=g0.kept hb;replace gH:=gH.kept hb;replace gS:=gS.kept hb;replace hE:=hE.kept hb;replace hB:=hB.trans (hb.mono hB.size);clear hb;have hes:(m.extract 8 40).size=32:=by rw[ByteArray.size_extract];omega
 have hks:(m.extract 40 88).size=48:=by rw[ByteArray.size_extract];omega
 have hsx:(m.extract 88 116).size=28:=by rw[ByteArray.size_extract];omega
 obtain⟨E,hEe⟩:∃X,txt (m.extract 8 40)=X:=⟨_,rfl⟩;have hEb:Byts 32 E:=fun j _=>hEe▸Bn _ j
 have hem:mkS 32 E=m.extract 8 40:=by rw[←hEe,←hes];exact CE _
 obtain⟨kx,hkx⟩:∃X,m.extract 40 88=X:=⟨_,rfl⟩;obtain⟨sx,hsxe⟩:∃X,m.extract 88 116=X:=⟨_,rfl⟩;obtain⟨n4,hn4⟩:∃X,CR m 4 4=X:=⟨_,rfl⟩;rw[hEe,hkx,hsxe,hn4];rw[hkx] at hks;rw[hsxe] at hsx;have lag0:=g0.lt;have lagH:=gH.lt;have lagS:=gS.lt;have laB:=hB.size;have laE:=hE.two
 go_wp2_with (refine E8 ?_;intro v2 gi0 hb;refine Hid.out ?_)
 replace g0:=g0.kept hb;replace gH:=gH.kept hb;replace gS:=gS.kept hb;replace hE:=hE.kept hb;replace hB:=hB.trans (hb.mono hB.size);clear hb;refine Hid.mk ?_
 go_wp2_with (refine En Gg (EW _ _ _ _) gi0 (by rfl) (by rfl) ?_;intro v3 gi o6;refine Hid.out ?_)
 replace g0:=g0.only o6 (by omega);replace gH:=gH.only o6 (by omega);replace gS:=gS.only o6 (by omega);replace hE:=hE.only o6 (by omega);replace hB:=hB.trans (o6.below (by omega));clear o6;clear gi0;refine Hid.mk ?_;obtain⟨bi,hbi⟩:∃bi,v1.heap.size=bi:=⟨_,rfl⟩;rw[hbi] at gi lag0 lagH lagS laB laE ⊢;clear hbi;have HP:=Hid.mk hE.2
 go_wp2_with (refine Aq Af g0 (by rfl) ?_)
 refine(Dz O _ HP.out hO).mono ?_;rintro x v4 ⟨rfl,hb⟩;replace g0:=g0.kept hb;replace gH:=gH.kept hb;replace gS:=gS.kept hb;replace gi:=gi.kept hb;replace hE:=hE.kept hb;replace hB:=hB.trans (hb.mono hB.size);clear hb;clear HP;have lcg0:=g0.lt;have lcgH:=gH.lt;have lcgS:=gS.lt;have lcgi:=gi.lt;have lcB:=hB.size;have lcE:=hE.two;go_wp2_with fail;refine(hBeg _ hE).mono ?_;rintro x v5 ⟨b,hbb,rfl,g,hb⟩;have hb3:3≤b:=by omega
 have hbS:w.heap.size≤b:=by omega
 replace g0:=g0.kept hb;replace gH:=gH.kept hb;replace gS:=gS.kept hb;replace gi:=gi.kept hb;replace hE:=hE.kept hb;replace hB:=hB.trans (hb.mono hB.size);clear hb;clear hBeg;have hre:=Gk gi
 go_wp2_with (refine Ae rfl (Ao rfl Af (by rfl) hre) ?_)
 refine(Co b H0 C0 _ E _ hE hb3 g hH0 hC0 hEb).mono ?_;rintro x v6 ⟨rfl,g',t1⟩;replace g0:=g0.tou t1 (by omega);replace gH:=gH.tou t1 (by omega);replace gS:=gS.tou t1 (by omega);replace gi:=gi.tou t1 (by omega);replace hE:=hE.touch t1 hb3;replace hB:=AU hB t1 hbS (Acg _);clear t1;clear g hre;have g:=g';clear g';rw[hem] at g;have hC1:Byts 32 (chn C0 (m.extract 8 40) 0):=Dr _ _ 0 32;have hH1:Byts 32 (BX H0 (m.extract 8 40)):=C6 _ _ 32;obtain⟨C1,hC1e⟩:∃X,chn C0 (m.extract 8 40) 0=X:=⟨_,rfl⟩;obtain⟨H1,hH1e⟩:∃X,BX H0 (m.extract 8 40)=X:=⟨_,rfl⟩;rw[hC1e] at g hC1;rw[hH1e] at g hH1;have hmf:∀(fn:Fn) (first cap:Array Value) (w:World),(Instr.makeFunc fn first cap).run prog w=.ok (.func fn first cap) w:=fun _ _ _ _=>rfl
 have hre:=Gk gi
 go_wp2_with (first|(refine Aq Af g0 (by rfl) ?_)|(refine Ae rfl (Ao rfl Af (by rfl) hre) ?_))
 have hzE:shZ O E=true:=by rw[←hEe];exact hz1
 refine(Ce b H1 C1 _ O E _ hE g hC1 hO hEb hzE).mono ?_;rintro x v7 ⟨rfl,g',t1⟩;replace g0:=g0.tou t1 (by omega);replace gH:=gH.tou t1 (by omega);replace gS:=gS.tou t1 (by omega);replace gi:=gi.tou t1 (by omega);replace hE:=hE.touch t1 hb3;replace hB:=AU hB t1 hbS (Acg _);clear t1;clear g;have g:=g';clear g';obtain⟨L,hLe⟩:∃X,chn C1 (mkS 32 (shF O E))=X:=⟨_,rfl⟩;have hL:∀i,Byts 32 (L i):=fun i=>hLe▸Dr _ _ i 32
 rw[hLe] at g;have hcl:_:=gi.at 33 (by omega);replace hcl:_=some (Value.string kx):=hcl;go_wp2_with fail;have hPe:Bc (L 1) B9 kx (mkS 32 H1)=acP O H0 C0 m:=by simp only[acP,acL,Jh,acE,hkx,hEe,hC1e,hH1e,hLe]
 have hzp:(Bc (L 1) B9 kx (mkS 32 H1)).2=0:=by rw[hPe];exact hz2
 refine(K8 b H1 (L 0) (L 1) kx _ hE hb3 g hH1 (hL 1) (by omega) hzp).mono ?_;rintro x v8 ⟨rfl,g',t1⟩;replace g0:=g0.tou t1 (by omega);replace gH:=gH.tou t1 (by omega);replace gS:=gS.tou t1 (by omega);replace gi:=gi.tou t1 (by omega);replace hE:=hE.touch t1 hb3;replace hB:=AU hB t1 hbS (Acg _);clear t1;clear g hcl;have g:=g';clear g';obtain⟨H2,hH2e⟩:∃X,BX H1 kx=X:=⟨_,rfl⟩;rw[hH2e] at g;have hH2:Byts 32 H2:=hH2e▸C6 _ _ 32;have hps:(Bc (L 1) B9 kx (mkS 32 H1)).1.size=32:=by rw[Hr hzp];omega
 obtain⟨p,hpe⟩:∃X,(Bc (L 1) B9 kx (mkS 32 H1)).1=X:=⟨_,rfl⟩;rw[hpe] at hps ⊢;go_wp2_with fail;have hpx:p.extract 0 (0+32)=p:=by rw[Acl,←hps];exact ByteArray.extract_zero_size
 refine(Hn p 0 _ (by omega) (by omega)).mono ?_;rintro x v9 ⟨rfl,hb⟩;replace g0:=g0.kept hb;replace gH:=gH.kept hb;replace gS:=gS.kept hb;replace gi:=gi.kept hb;replace g:=g.kept hb;replace hE:=hE.kept hb;replace hB:=hB.trans (hb.mono hB.size);clear hb;rw[hpx];have hKb:Byts 32 (txt p):=fun j _=>Bn _ j
 obtain⟨Q,hQ⟩:∃X,txt p=X:=⟨_,rfl⟩;rw[hQ] at hKb ⊢;have ldg0:=g0.lt;have ldgH:=gH.lt;have ldgS:=gS.lt;have ldgi:=gi.lt;have ldg:=g.lt;have ldB:=hB.size;have ldE:=hE.two
 go_wp2_with (refine D1 ?_;intro v10a gp0 hb;refine Hid.out ?_)
 replace g0:=g0.kept hb;replace gH:=gH.kept hb;replace gS:=gS.kept hb;replace gi:=gi.kept hb;replace g:=g.kept hb;replace hE:=hE.kept hb;replace hB:=hB.trans (hb.mono hB.size);clear hb;refine Hid.mk ?_
 go_wp2_with (refine A1 Af gp0 (by rfl) (by rfl) ?_;intro v10b gp o6;refine Hid.out ?_)
 replace g0:=g0.only o6 (by omega);replace gH:=gH.only o6 (by omega);replace gS:=gS.only o6 (by omega);replace gi:=gi.only o6 (by omega);replace g:=g.only o6 (by omega);replace hE:=hE.only o6 (by omega);replace hB:=hB.trans (o6.below (by omega));clear o6;clear gp0;refine Hid.mk ?_;obtain⟨bp,hbp⟩:∃bp,v9.heap.size=bp:=⟨_,rfl⟩;rw[hbp] at gp ldg0 ldgH ldgS ldgi ldg ldB ldE ⊢;clear hbp
 go_wp2_with (first|(refine Aq Af g0 (by rfl) ?_)|(refine Aq Af gp (by rfl) ?_))
 have hQb:=hKb;have hKe:Q=acK O H0 C0 m:=by rw[←hQ,←hpe,hPe];rfl
 have hzQ:shZ O Q=true:=by rw[hKe];exact hz3
 refine(Ce b H2 (L 0) _ O Q _ hE g (hL 0) hO hQb hzQ).mono ?_;rintro x v11 ⟨rfl,g',t1⟩;replace g0:=g0.tou t1 (by omega);replace gH:=gH.tou t1 (by omega);replace gS:=gS.tou t1 (by omega);replace gi:=gi.tou t1 (by omega);replace gp:=gp.tou t1 (by omega);replace hE:=hE.touch t1 hb3;replace hB:=AU hB t1 hbS (Acg _);clear t1;clear g;have g:=g';clear g';obtain⟨M,hMe⟩:∃X,chn (L 0) (mkS 32 (shF O Q))=X:=⟨_,rfl⟩;have hM:∀i,Byts 32 (M i):=fun i=>hMe▸Dr _ _ i 32
 rw[hMe] at g;have hcl:_:=gi.at 34 (by omega);replace hcl:_=some (Value.string sx):=hcl;go_wp2_with fail;have hTe:Bc (M 1) B9 sx (mkS 32 H2)=acT O H0 C0 m:=by simp only[acT,acM,acL,Mu,Jh,acE,hkx,hsxe,hEe,hC1e,hH1e,hLe,hH2e,←hKe,hMe]
 have hzt:(Bc (M 1) B9 sx (mkS 32 H2)).2=0:=by rw[hTe];exact hz4
 refine(K8 b H2 (M 0) (M 1) sx _ hE hb3 g hH2 (hM 1) (by omega) hzt).mono ?_;rintro x v12 ⟨rfl,g',t1⟩;replace g0:=g0.tou t1 (by omega);replace gH:=gH.tou t1 (by omega);replace gS:=gS.tou t1 (by omega);replace gi:=gi.tou t1 (by omega);replace gp:=gp.tou t1 (by omega);replace hE:=hE.touch t1 hb3;replace hB:=AU hB t1 hbS (Acg _);clear t1;clear g hcl;have g:=g';clear g';obtain⟨H3,hH3e⟩:∃X,BX H2 sx=X:=⟨_,rfl⟩;rw[hH3e] at g;have hH3:Byts 32 H3:=hH3e▸C6 _ _ 32;have hts:(Bc (M 1) B9 sx (mkS 32 H2)).1.size=12:=by rw[Hr hzt];omega
 obtain⟨t,hte⟩:∃X,(Bc (M 1) B9 sx (mkS 32 H2)).1=X:=⟨_,rfl⟩;rw[hte] at hts ⊢;have leg0:=g0.lt;have legH:=gH.lt;have legS:=gS.lt;have legi:=gi.lt;have legp:=gp.lt;have leg:=g.lt;have leB:=hB.size;have leE:=hE.two
 go_wp2_with (refine LZ (by rfl) hts ?_;intro v13 cp r1 hb;refine Hid.out ?_)
 replace g0:=g0.kept hb;replace gH:=gH.kept hb;replace gS:=gS.kept hb;replace gi:=gi.kept hb;replace gp:=gp.kept hb;replace g:=g.kept hb;replace hE:=hE.kept hb;replace hB:=hB.trans (hb.mono hB.size);clear hb;have hr1:=JL r1;clear r1;refine Hid.mk ?_;have lfg0:=g0.lt;have lfgH:=gH.lt;have lfgS:=gS.lt;have lfgi:=gi.lt;have lfgp:=gp.lt;have lfg:=g.lt;have lfB:=hB.size;have lfE:=hE.two
 go_wp2_with (first|(refine Ae rfl (Ma rfl (by rfl) (ZQ _ _ _)) ?_)|(refine Ae rfl (Ao rfl Ax (by rfl) hr1) ?_)|(refine EX ?_;intro v14 gt0 hb;refine Hid.out ?_))
 replace g0:=g0.kept hb;replace gH:=gH.kept hb;replace gS:=gS.kept hb;replace gi:=gi.kept hb;replace gp:=gp.kept hb;replace g:=g.kept hb;replace hE:=hE.kept hb;replace hB:=hB.trans (hb.mono hB.size);clear hb;clear hr1;refine Hid.mk ?_
 go_wp2_with (refine A1 Ax gt0 (by rfl) (by rfl) ?_;intro v15 gt o6;refine Hid.out ?_)
 replace g0:=g0.only o6 (by omega);replace gH:=gH.only o6 (by omega);replace gS:=gS.only o6 (by omega);replace gi:=gi.only o6 (by omega);replace gp:=gp.only o6 (by omega);replace g:=g.only o6 (by omega);replace hE:=hE.only o6 (by omega);replace hB:=hB.trans (o6.below (by omega));clear o6;clear gt0;refine Hid.mk ?_;go_wp2_with fail;obtain⟨bt,hbt⟩:∃bt,v13.heap.size=bt:=⟨_,rfl⟩;rw[hbt] at gt lfg0 lfgH lfgS lfgi lfgp lfg lfB lfE ⊢;clear hbt;have HI:Hid (∀u,Touch (fun x=>x=(w.heap.size+1)∨x=(w.heap.size+1+1)) v15 u→SAt u bi 118 35 (F7 n4 E kx sx)):=Hid.mk (fun u hu=>gi.block (hu.block bi gi.lt (by omega)));have HG:Hid (∀u,Touch (fun x=>x=(w.heap.size+1)∨x=(w.heap.size+1+1)) v15 u→KtAt u b H3 (M 0) (M 1)):=Hid.mk (fun u hu=>g.block (hu.block b g.lt (by omega)));have HQ:Hid (∀u,Touch (fun x=>x=(w.heap.size+1)∨x=(w.heap.size+1+1)) v15 u→ArrAt u bp .u8 22 32 Q):=Hid.mk (fun u hu=>gp.block (hu.block bp gp.lt (by omega)));have HT2:Hid (∀u,Touch (fun x=>x=(w.heap.size+1)∨x=(w.heap.size+1+1)) v15 u→ArrAt u bt .u8 26 12 (txt t)):=Hid.mk (fun u hu=>gt.block (hu.block bt gt.lt (by omega)));refine Ai (Touch (fun x=>x=(w.heap.size+1)∨x=(w.heap.size+1+1)) v15) v15.heap.size
   [((w.heap.size+1),once (SC 162 Bk) 31 15 (SC 162 (Cl H3 (M 0) (fun _=>0) E Q 0 n4))),((w.heap.size+1+1),once (WA .u8 12 (fun _=>0)) 26 16 (WA .u8 12 (txt t)))]
   [kv (.pointer (some ⟨b,0,none⟩)),kv (.pointer (some ⟨b,0,none⟩)),kv (.pointer (some ⟨b,0,none⟩)),kv (.agg (WA .u8 32 H3)),kv (.pointer (some ⟨b,0,none⟩)),kv (.pointer (some ⟨b,0,none⟩)),kv (.pointer (some ⟨b,32,none⟩)),kv (.agg (WA .u8 32 (M 0))),kv (.pointer (some ⟨bi,1,none⟩)),kv (.agg (WA .u8 32 E)),kv (.agg (WA .u8 32 Q)),kv (.pointer (some ⟨bi,0,none⟩)),kv (.int .u32 n4),kv (.agg (SC 162 (Cl H3 (M 0) (fun _=>0) E Q 0 n4))),kv (.agg (WA .u8 12 (txt t))),.val fun _=>True,.val fun _=>True]
   [.none,.none,.none,.none,.none,.none,.none,.none,.none,.none,.none,.none,.none,.none,.none,.base 0 1,.base 1 1]
   [some 42,some 43,some 44,some 45,some 46,some 47,some 48,some 49,some 50,some 51,some 52,some 53,some 54,some 55,some 56,none,none]
   [(7,.pointer (some ⟨b,0,none⟩)),(6,.pointer (some ⟨bi,0,none⟩)),(8,.pointer (some ⟨bp,0,none⟩)),(9,.pointer (some ⟨bt,0,none⟩)),(4,.pointer (some ⟨(w.heap.size+1),0,none⟩)),(5,.pointer (some ⟨(w.heap.size+1+1),0,none⟩))]
   [[],[.slot 0],[.slot 1],[.slot 2],[],[.slot 4],[.slot 5],[.slot 6],[],[.slot 8],[],[],[.slot 11],[.slot 3,.slot 7,.slot 9,.slot 10,.slot 12],[],[.slot 13,.base 0 0],[.slot 14,.base 1 0]]
   [.base 0 1,.base 1 1] [42,43,44,45,46,47,48,49,50,51,52,53,54,55,56]
   rfl (by kernel_rfl) ⟨rfl,rfl,rfl,rfl,rfl,rfl,trivial⟩ (DK (Below.refl _ v15).drew) (Acg _) ⟨⟨gH.lt,Al gH⟩,⟨gS.lt,Al gS⟩,trivial⟩ ⟨⟨(show ((w.heap.size+1):Nat)≠(w.heap.size+1+1) from by omega),trivial⟩,trivial,trivial⟩ (GP (fun k hk=>by simpa using hk))
   ⟨
    sL fun f _=>sV (Ab rfl f.1),
    sL fun _ k=>sV (AO rfl k.1),
    sL fun _ kn=>sV (Dv (k:=0) rfl kn.1 (by decide)),
    (fun _ _ ww _ hS _ _ kn=>sV (Ao rfl Af kn.1 (HG.out ww hS).h)),
    sL fun f _=>sV (Ab rfl f.1),
    sL fun _ k=>sV (AO rfl k.1),
    sL fun _ kn=>sV (Dv (k:=1) rfl kn.1 (by decide)),
    (fun _ _ ww _ hS _ _ kn=>sV (Ao rfl Af kn.1 (HG.out ww hS).c)),
    sL fun f _=>sV (Hq (k:=1) rfl f.2.1 (by decide)),
    (fun _ _ ww _ hS _ _ kn=>sV (Ao rfl Af kn.1 (Gk (HI.out ww hS)))),
    (fun _ _ ww _ hS _ fr _=>sV (AA rfl Af (HQ.out ww hS) fr.2.2.1)),
    sL fun f _=>sV (Hq (k:=0) rfl f.2.1 (by decide)),
    (fun _ _ ww _ hS _ _ kn=>sV (At rfl kn.1 (EE ((HI.out ww hS).at 0 (by omega))))),
    sL fun _ k=>sV (Nd rfl k.1 k.2.1 k.2.2.1 k.2.2.2.1 k.2.2.2.2.1),
    (fun _ _ ww _ hS _ fr _=>sV (AA rfl Ax (HT2.out ww hS) fr.2.2.2.1)),
    sL fun f k=>.inl ⟨trivial,fun K hK=>CH rfl AV (Bu _ _ _ _ _ _ _) f.2.2.2.2.1 k.1 (Ak k.2.1) (fun w2 hg ho=>hK _ _ ⟨⟨Ag ho,Al hg⟩,trivial⟩)⟩,
    sL fun f k=>.inl ⟨trivial,fun K hK=>Bs rfl Ax f.2.2.2.2.2.1 k.1 (Ak k.2.1) (fun w2 hg ho=>hK _ _ ⟨⟨Ag ho,Al hg⟩,trivial⟩)⟩,
    trivial⟩ ?_
 intro vs own v16 hT1 hsz kn inj;clear inj hsz;have q0:SAt v16 (w.heap.size+1) 31 162 (Cl H3 (M 0) (fun _=>0) E Q 0 n4):=Ak kn.1;have q1:ArrAt v16 (w.heap.size+1+1) .u8 26 12 (txt t):=Ak kn.2.1;clear kn HG HI HQ HT2;replace hB:Below w.heap.size w v16:=⟨hT1.os.trans hB.os,hT1.tape.trans hB.tape,hT1.output.trans hB.output,Acp hB.size hT1.size,fun k hk=>(hT1.block k (by have:=hB.size;omega) (by omega)).trans (hB.block k hk)⟩;simp only[Am,Act.put,Aci,Acj,Ach];go_wp2_with fail;refine bodyPost_ret (v:=.tuple #[.agg (SC 162 (Cl H3 (M 0) (fun _=>0) E Q 0 n4)),.agg (WA .u8 12 (txt t))]) (AaI results46 AV Ax q0 q1 (by rfl) (by rfl)) rfl ⟨?_,hB⟩;have e1:QZ H0 m=H3:=by simp only[QZ,Mu,Jh,hkx,hsxe,hH1e,hH2e,hH3e]
 have e2:acM O H0 C0 m=M:=by simp only[acM,acL,acE,hEe,hC1e,hLe,←hKe,hMe]
 have e3:acE m=E:=hEe;rw[e1,e2,e3,←hKe,←hTe,hte,hn4]
theorem XF:Da 26 12:=⟨_,_,underlying26,by kernel_rfl⟩
def Fs(a b:Nat→Int):Nat→Nat→Bool
 | 0,_=>false
 | n+1,i=>if a i=b i then Fs a b n (i+1) else decide (b i<a i)
def Cz(n:Int):Int:=if n<0 then 0 else if 1099511627776<n then 1099511627776 else n
def C9(n:Int)(j:Nat):Int:=if j<8 then (4611686018427387914+Cz n/1000)/256 ^ (7-j)%256 else Cz n%1000*1000000/256 ^ (11-j)%256
def F8(a:Nat→Int):Nat→Nat→Int
 | 0,_=>0
 | n+1,i=>a i*256 ^ n+F8 a n (i+1)
theorem Ra(a:Nat→Int):∀(n i:Nat),(∀j,j<n→0≤a (i+j)∧a (i+j)<256)→0≤F8 a n i∧F8 a n i<256 ^ n
 | 0,_,_=>by unfold F8;omega
 | n+1,i,h=>by
  have ih:=Ra a n (i+1) (fun j hj=>by have:=h (j+1) (by omega);rwa [show i+(j+1)=i+1+j by omega] at this);have h0:=h 0 (by omega);rw[Ac6] at h0;unfold F8;have hp:(0:Int)<256 ^ n:=Int.pow_pos (by omega);have h1:0≤a i*256 ^ n:=Int.mul_nonneg h0.1 (by omega);have h2:a i*256 ^ n≤255*256 ^ n:=AcT (by omega) (by omega);rw[Acr];omega
theorem Sf{p x y u v:Int}(hu:0≤u∧u<p)(hv:0≤v∧v<p)(h:x<y):x*p+u<y*p+v:=by
 have h1:(x+1)*p≤y*p:=AcT (by omega) (by omega);rw[Int.add_mul,Int.one_mul] at h1;omega
theorem F9(a b:Nat→Int):∀(n i:Nat),(∀j,j<n→0≤a (i+j)∧a (i+j)<256)→(∀j,j<n→0≤b (i+j)∧b (i+j)<256)→(Fs a b n i=true↔F8 b n i<F8 a n i)∧(F8 a n i=F8 b n i→∀j,j<n→a (i+j)=b (i+j))
 | 0,_,_,_=>⟨by unfold Fs F8;simp,fun _ j hj=>by omega⟩
 | n+1,i,ha,hb=>by
  have sa:∀j,j<n→0≤a (i+1+j)∧a (i+1+j)<256:=fun j hj=>by have:=ha (j+1) (by omega);rwa [show i+(j+1)=i+1+j by omega] at this
  have sb:∀j,j<n→0≤b (i+1+j)∧b (i+1+j)<256:=fun j hj=>by have:=hb (j+1) (by omega);rwa [show i+(j+1)=i+1+j by omega] at this
  have ih:=F9 a b n (i+1) sa sb;have ra:=Ra a n (i+1) sa;have rb:=Ra b n (i+1) sb;unfold Fs F8
  by_cases e:a i=b i
  ·rw[if_pos e,e]
   refine⟨by rw[ih.1];omega,fun h j hj=>?_⟩;have h2:=ih.2 (by omega)
   match j,hj with
   | 0,_=>rw[Ac6];exact e
   | j+1,hj=>have:=h2 j (by omega);rwa [show i+1+j=i+(j+1) by omega] at this
  ·rw[if_neg e]
   rcases Int.lt_or_gt_of_ne e with h | h
   ·have:=Sf ra rb h
    exact⟨by simp;omega,fun h=>by omega⟩
   ·have:=Sf rb ra h
    exact⟨by simp;omega,fun h=>by omega⟩
theorem XG{a b:Nat→Int}(ha:Byts 12 a)(hb:Byts 12 b):¬(Fs a b 12 0=true∧Fs b a 12 0=true):=by
 have h1:=F9 a b 12 0 (fun j hj=>by rw[Acl];exact ha j hj) (fun j hj=>by rw[Acl];exact hb j hj);have h2:=F9 b a 12 0 (fun j hj=>by rw[Acl];exact hb j hj) (fun j hj=>by rw[Acl];exact ha j hj);rw[h1.1,h2.1];omega
theorem Zy{a b:Nat→Int}(ha:Byts 12 a)(hb:Byts 12 b):(∀j,j<12→a j=b j)↔(Fs a b 12 0=false∧Fs b a 12 0=false):=by
 have h1:=F9 a b 12 0 (fun j hj=>by rw[Acl];exact ha j hj) (fun j hj=>by rw[Acl];exact hb j hj);have h2:=F9 b a 12 0 (fun j hj=>by rw[Acl];exact hb j hj) (fun j hj=>by rw[Acl];exact ha j hj);have e1:Fs a b 12 0=false↔¬F8 b 12 0<F8 a 12 0:=by rw[←h1.1];simp
 have e2:Fs b a 12 0=false↔¬F8 a 12 0<F8 b 12 0:=by rw[←h2.1];simp
 rw[e1,e2];constructor
 ·intro h
  have:F8 a 12 0=F8 b 12 0:=by
   simp only[F8,h 0 (by omega),h 1 (by omega),h 2 (by omega),h 3 (by omega),h 4 (by omega),h 5 (by omega),h 6 (by omega),h 7 (by omega),h 8 (by omega),h 9 (by omega),h 10 (by omega),h 11 (by omega),Nat.reduceAdd]
  omega
 ·intro h j hj
  have:=h1.2 (by omega) j hj
  rwa [Acl] at this
theorem Rb(n:Int)(k:Nat):Byts k (C9 n):=fun j _=>by unfold C9;split<;>omega
theorem Ace(A:Int)(h0:0≤A)(h1:A<18446744073709551616):A/72057594037927936%256*72057594037927936+(A/281474976710656%256*281474976710656+(A/1099511627776%256*1099511627776+(A/4294967296%256*4294967296+(A/16777216%256*16777216+(A/65536%256*65536+(A/256%256*256+A%256))))))=A:=by omega
theorem Acf(A:Int)(h0:0≤A)(h1:A<4294967296):A/16777216%256*16777216+(A/65536%256*65536+(A/256%256*256+A%256))=A:=by omega
theorem XH(n:Int):0≤Cz n∧Cz n≤1099511627776:=by unfold Cz;split<;>(try split)<;>omega
theorem Sg(n:Int):F8 (C9 n) 12 0=(4611686018427387914+Cz n/1000)*4294967296+Cz n%1000*1000000:=by
 have hn:=XH n;have hA:=Ace (4611686018427387914+Cz n/1000) (by omega) (by omega);have hB:=Acf (Cz n%1000*1000000) (by omega) (by omega);have e:F8 (C9 n) 12 0=C9 n 0*256 ^ 11+(C9 n 1*256 ^ 10+(C9 n 2*256 ^ 9+(C9 n 3*256 ^ 8+(C9 n 4*256 ^ 7+(C9 n 5*256 ^ 6+(C9 n 6*256 ^ 5+(C9 n 7*256 ^ 4+(C9 n 8*256 ^ 3+(C9 n 9*256 ^ 2+(C9 n 10*256 ^ 1+(C9 n 11*256 ^ 0+0))))))))))):=rfl;have h0:C9 n 0=(4611686018427387914+Cz n/1000)/72057594037927936%256:=rfl;have h1:C9 n 1=(4611686018427387914+Cz n/1000)/281474976710656%256:=rfl;have h2:C9 n 2=(4611686018427387914+Cz n/1000)/1099511627776%256:=rfl;have h3:C9 n 3=(4611686018427387914+Cz n/1000)/4294967296%256:=rfl;have h4:C9 n 4=(4611686018427387914+Cz n/1000)/16777216%256:=rfl;have h5:C9 n 5=(4611686018427387914+Cz n/1000)/65536%256:=rfl;have h6:C9 n 6=(4611686018427387914+Cz n/1000)/256%256:=rfl;have h7:C9 n 7=(4611686018427387914+Cz n/1000)/1%256:=rfl;have h8:C9 n 8=Cz n%1000*1000000/16777216%256:=rfl;have h9:C9 n 9=Cz n%1000*1000000/65536%256:=rfl;have h10:C9 n 10=Cz n%1000*1000000/256%256:=rfl;have h11:C9 n 11=Cz n%1000*1000000/1%256:=rfl;rw[Int.ediv_one] at h7 h11;rw[e,h0,h1,h2,h3,h4,h5,h6,h7,h8,h9,h10,h11];clear h0 h1 h2 h3 h4 h5 h6 h7 h8 h9 h10 h11 e;generalize (4611686018427387914+Cz n/1000)/72057594037927936%256=x0 at *;generalize (4611686018427387914+Cz n/1000)/281474976710656%256=x1 at *;generalize (4611686018427387914+Cz n/1000)/1099511627776%256=x2 at *;generalize (4611686018427387914+Cz n/1000)/4294967296%256=x3 at *;generalize (4611686018427387914+Cz n/1000)/16777216%256=x4 at *;generalize (4611686018427387914+Cz n/1000)/65536%256=x5 at *;generalize (4611686018427387914+Cz n/1000)/256%256=x6 at *;generalize (4611686018427387914+Cz n/1000)%256=x7 at *;generalize Cz n%1000*1000000/16777216%256=x8 at *;generalize Cz n%1000*1000000/65536%256=x9 at *;generalize Cz n%1000*1000000/256%256=x10 at *;generalize Cz n%1000*1000000%256=x11 at *;rw[←hB,←hA];omega
theorem Sh(a b:Int)(ha:0≤a∧a≤1099511627776)(hb:0≤b∧b≤1099511627776):Fs (C9 a) (C9 b) 12 0=decide (b<a):=by
 have h1:=F9 (C9 a) (C9 b) 12 0 (fun j hj=>Rb a (0+j+1) _ (by omega)) (fun j hj=>Rb b (0+j+1) _ (by omega));rw[Sg,Sg] at h1;have ea:Cz a=a:=by unfold Cz;rw[if_neg (by omega),if_neg (by omega)]
 have eb:Cz b=b:=by unfold Cz;rw[if_neg (by omega),if_neg (by omega)]
 rw[ea,eb] at h1;have h2:=h1.1;have e:((4611686018427387914+b/1000)*4294967296+b%1000*1000000<(4611686018427387914+a/1000)*4294967296+a%1000*1000000)↔b<a:=by omega
 rw[e] at h2;rw[Bool.eq_iff_iff,h2,decide_eq_true_iff]
def Hx(f:Nat→Int):Nat→Nat→List UInt8
 | 0,_=>[]
 | n+1,i=>UInt8.ofNat (f i).toNat::Hx f n (i+1)
theorem Jl{x:Int}(h:0≤x∧x<256):(UInt8.ofNat x.toNat).toNat=x.toNat:=by
 rw[UInt8.toNat_ofNat'];exact Nat.mod_eq_of_lt (by omega)
theorem AbL{x y:Int}(hx:0≤x∧x<256)(hy:0≤y∧y<256):decide (UInt8.ofNat x.toNat<UInt8.ofNat y.toNat)=decide (x<y):=by
 have h:(UInt8.ofNat x.toNat<UInt8.ofNat y.toNat)↔x<y:=by
  rw[UInt8.lt_iff_toNat_lt,Jl hx,Jl hy];omega
 simp only[h]
theorem ZR{x y:Int}(hx:0≤x∧x<256)(hy:0≤y∧y<256):(UInt8.ofNat x.toNat==UInt8.ofNat y.toNat)=decide (x=y):=by
 have h:(UInt8.ofNat x.toNat=UInt8.ofNat y.toNat)↔x=y:=by
  rw[←UInt8.toNat_inj,Jl hx,Jl hy];omega
 rw[Bool.eq_iff_iff,beq_iff_eq,h,decide_eq_true_iff]
theorem PD(a b:Nat→Int):∀(n i:Nat),(∀j,j<n→0≤a (i+j)∧a (i+j)<256)→(∀j,j<n→0≤b (i+j)∧b (i+j)<256)→Op.bytesLess (Hx a n i) (Hx b n i)=Fs b a n i∧((Hx a n i==Hx b n i)=true↔∀j,j<n→a (i+j)=b (i+j))
 | 0,_,_,_=>⟨rfl,by simp[Hx]⟩
 | n+1,i,ha,hb=>by
  have sa:∀j,j<n→0≤a (i+1+j)∧a (i+1+j)<256:=fun j hj=>by have:=ha (j+1) (by omega);rwa [show i+(j+1)=i+1+j by omega] at this
  have sb:∀j,j<n→0≤b (i+1+j)∧b (i+1+j)<256:=fun j hj=>by have:=hb (j+1) (by omega);rwa [show i+(j+1)=i+1+j by omega] at this
  have ih:=PD a b n (i+1) sa sb;have h0:=ha 0 (by omega);have h1:=hb 0 (by omega);rw[Ac6] at h0 h1;unfold Hx Fs;constructor
  ·rw[Op.bytesLess,AbL h0 h1,ZR h0 h1,ih.1]
   by_cases e:b i=a i
   ·rw[if_pos e,e];simp
   ·rw[if_neg e]
    have:¬a i=b i:=fun h=>e h.symm
    simp[this]
  ·rw[List.cons_beq_cons,Acm,ZR h0 h1,ih.2,decide_eq_true_iff]
   constructor
   ·rintro⟨e,h⟩ j hj
    match j,hj with
    | 0,_=>rw[Ac6];exact e
    | j+1,hj=>have:=h j (by omega);rwa [show i+1+j=i+(j+1) by omega] at this
   ·intro h
    exact⟨by have:=h 0 (by omega);rwa [Ac6] at this,fun j hj=>by have:=h (j+1) (by omega);rwa [show i+(j+1)=i+1+j by omega] at this⟩
theorem Zz{a b:Nat→Int}(ha:Byts 12 a)(hb:Byts 12 b):(!(Op.bytesLess (Hx a 12 0) (Hx b 12 0) || Hx a 12 0==Hx b 12 0))=Fs a b 12 0:=by
 have h:=PD a b 12 0 (fun j hj=>by rw[Acl];exact ha j hj) (fun j hj=>by rw[Acl];exact hb j hj);have h2:=Zy ha hb;have h3:=XG ha hb
 have h4:((Hx a 12 0==Hx b 12 0)=true)↔(Fs a b 12 0=false∧Fs b a 12 0=false):=by
  rw[h.2,←h2];simp only[Acl]
 rw[h.1];generalize (Hx a 12 0==Hx b 12 0)=z at *;generalize Fs a b 12 0=x at *;generalize Fs b a 12 0=y at *;cases x<;>cases y<;>cases z<;>simp_all
theorem ZS(b:Nat)(w:World):(Instr.sliceAt 26 (.pointer (some ⟨b,0,none⟩)) none none none).run prog w=.ok (.slice (some ⟨b,0,none⟩) 12 12) w:=by simp[go_sem]
theorem PE(f:Nat→Int):(mkS 12 f).toList=Hx f 12 0:=by rw[Lib.toList_data];rfl
theorem AbM{a b:Nat→Int}(ha:Byts 12 a)(hb:Byts 12 b)(w:World):(binOp .gtr 9 (.string (mkS 12 a)) (.string (mkS 12 b))).run prog w=.ok (.bool (Fs a b 12 0)) w:=by
 rw[←Zz ha hb,←PE,←PE];rfl
theorem Nn(a b:Nat→Int)(w:World)(ha:Byts 12 a)(hb:Byts 12 b):Calls prog 32 #[.agg (WA .u8 12 a),.agg (WA .u8 12 b)] w fun e w'=>e=.returned (.bool (Fs a b 12 0))∧Below w.heap.size w w':=by
 have g0:ArrAt ((w.alloc (.cells (WA .u8 12 a) 26)).alloc (.cells (WA .u8 12 b) 26)) w.heap.size .u8 26 12 a:=heap_alloc2_old w _ _;have g1:ArrAt ((w.alloc (.cells (WA .u8 12 a) 26)).alloc (.cells (WA .u8 12 b) 26)) (w.heap.size+1) .u8 26 12 b:=heap_alloc2_new w _ _;have hB:Below w.heap.size w ((w.alloc (.cells (WA .u8 12 a) 26)).alloc (.cells (WA .u8 12 b) 26)):=((Below.refl _ w).alloc (by simp) _).alloc (by simp) _;have HA:=Hid.mk ha;have HBB:=Hid.mk hb;have HZ:=Hid.mk (AbM ha hb);generalize Fs a b 12 0=z at *;go_enter func32,ntmps32;go_wp2_with fail;refine AJ (fun v=>ArrAt v w.heap.size .u8 26 12 a∧ArrAt v (w.heap.size+1) .u8 26 12 b∧Below w.heap.size w v) ⟨g0,g1,hB⟩ ?_;clear g0 g1 hB;rintro v0 ⟨g0,g1,hB⟩;have HG0:Hid (∀u,Below v0.heap.size v0 u→ArrAt u w.heap.size .u8 26 12 a):=Hid.mk (fun u hu=>g0.kept hu);have HG1:Hid (∀u,Below v0.heap.size v0 u→ArrAt u (w.heap.size+1) .u8 26 12 b):=Hid.mk (fun u hu=>g1.kept hu);refine Ai (Below v0.heap.size v0) v0.heap.size
   ([]:List (Nat×Cont))
   [kv (.slice (some ⟨w.heap.size,0,none⟩) 12 12),kv (.string (mkS 12 a)),kv (.slice (some ⟨(w.heap.size+1),0,none⟩) 12 12),kv (.string (mkS 12 b)),kv (.bool z),kv (.bool z)]
   []
   [some 5,some 6,some 7,some 8,some 9,some 4]
   [(2,.pointer (some ⟨w.heap.size,0,none⟩)),(3,.pointer (some ⟨(w.heap.size+1),0,none⟩))]
   [[],[.slot 0],[],[.slot 2],[.slot 1,.slot 3],[.slot 4]]
   [.slot 5] [5,6,7,8,9,4]
   rfl (by kernel_rfl) ⟨rfl,rfl,trivial⟩ (Below.refl _ v0).drew (Acg _) trivial trivial (A8 (Acg _) trivial)
   ⟨
    (fun _ _ ww _ _ _ fr _=>sV (Ci rfl fr.1 (ZS w.heap.size ww))),
    (fun _ _ ww _ hS _ _ kn=>sV (AF rfl kn.1 (AD 12 w.heap.size 12 ww 12 a (HG0.out ww hS).row HA.out rfl))),
    (fun _ _ ww _ _ _ fr _=>sV (Ci rfl fr.2.1 (ZS (w.heap.size+1) ww))),
    (fun _ _ ww _ hS _ _ kn=>sV (AF rfl kn.1 (AD 12 (w.heap.size+1) 12 ww 12 b (HG1.out ww hS).row HBB.out rfl))),
    (fun _ _ ww _ _ _ _ kn=>sV (CM rfl kn.1 kn.2.1 rfl (HZ.out ww))),
    sL fun _ k=>sV (Av rfl k.1),
    trivial⟩ ?_
 intro vs own v5 hB5 hs5 kn inj;clear inj hs5 HG0 HG1;have e4:vs 4=_:=kn.1;clear kn;simp only[Am,Act.put,Aci,Acj,Ach,e4];go_wp2_with fail
 go_ret
 exact⟨rfl,hB.trans (hB5.mono hB.size)⟩
def hiD(N:Int)(k j:Nat):Int:=N/256 ^ (k-1-j)%256
theorem XI(N:Int)(k n:Nat):Byts n (hiD N k):=fun j _=>by unfold hiD;omega
theorem Kj(N:Int)(k:Nat)(w:World)(hk:k≤8):Calls prog 56 #[.int .u64 N,.int .i64 (k:Int)] w fun e w'=>e=.returned (.string (mkS k (hiD N k)))∧Below w.heap.size w w':=by
 have hkI:(k:Int)≤8:=by omega
 go_enter func56,ntmps56
 go_wp2_with (refine Dq (by rfl) (by rfl) (by omega) ?_;intro v1 g1 hB;refine Hid.out ?_)
 refine Hid.mk ?_;go_wp2_with fail
 go_loopg [11] k (fun gm iv v=>∃i:Nat,Hid (gm+i=k)∧iv=.int .i64 (i:Int)∧ArrAt v w.heap.size .u8 5 k (fun j=>if j<i then hiD N k j else 0)∧Below w.heap.size w v)
 case atStart=>exact⟨0,Hid.mk rfl,rfl,g1.congr (fun j _=>by rw[if_neg (by omega)]),hB⟩
 case round =>
  clear g1 hB;obtain⟨i,HI,rfl,g1,hB⟩:=hrel;have hi8:i≤k:=by have:=HI.out;omega
  by_cases hil:i<k
  ·have hiI:(i:Int)<(k:Int):=by omega
   have c0:=g1.cell i hil;have f0:=g1.free i;have hpw:(2:Int) ^ (8*(k-1-i))=256 ^ (k-1-i):=by rw[Int.pow_mul];rfl
   have g2:=Hid.mk ((g1.set i (N/2 ^ (8*(k-1-i))%256) hil).congr (s':=fun j=>if j<i+1 then hiD N k j else 0) (fun j _=>by
    unfold upd
    by_cases e:j=i
    ·subst e;rw[if_pos rfl,if_pos (by omega),hpw];rfl
    ·rw[if_neg e]
     show (if j<i then hiD N k j else 0)=_
     by_cases h:j<i
     ·rw[if_pos h,if_pos (by omega)]
     ·rw[if_neg h,if_neg (by omega)]))
   clear hpw;go_wp2_with fail
   go_roundg (k-(i+1))
   case rel=>exact⟨i+1,Hid.mk (by omega),by go_num,g2.out,Below.setCell (p:=⟨w.heap.size,i,none⟩) hB (by simp) _⟩
   case measure=>have:=HI.out;omega
  ·have hi2:i=k:=by omega
   subst hi2;replace g1:=g1.congr (s':=hiD N i) (fun j hj=>by rw[if_pos hj]);have hcv:=AD i w.heap.size i wr i (hiD N i) g1.row (XI N i i) rfl;go_wp2_with fail
   go_ret
   exact⟨rfl,hB⟩
theorem Z3(n:Int):∀j,j<12→txt (mkS 8 (hiD (4611686018427387914+Cz n/1000) 8)++mkS 4 (hiD (Cz n%1000*1000000) 4)) j=C9 n j:=fun j hj=>by
 rw[EI,Ar];unfold C9
 by_cases h:j<8
 ·rw[if_pos h,if_pos h,I4 (XI _ 8 8 j h) h]
  unfold hiD;rw[show 8-1-j=7-j by omega]
 ·rw[if_neg h,if_neg h,I4 (XI _ 4 4 (j-8) (by omega)) (by omega)]
  unfold hiD;rw[show 4-1-(j-8)=11-j by omega]
theorem XJ{a:Act}{o:Oper}{w:World}{x y:Operand}(ho:o.op=.call { callee:=.builtin .max,args:=#[x,y],argTypes:=#[3,3] }){m n:Int}(hx:a.eval x=.int .i64 m)(hy:a.eval y=.int .i64 n):(execOp a.eval o).run prog w=.ok (.value (.int .i64 (max m n))) w:=by
 have h:(if n > m then n else m)=max m n:=by split<;>omega
 simp[execOp,ho,resolve,invoke,builtin,hx,hy,run_max_int2,h]
theorem XK{a:Act}{o:Oper}{w:World}{x y:Operand}(ho:o.op=.call { callee:=.builtin .min,args:=#[x,y],argTypes:=#[3,3] }){m n:Int}(hx:a.eval x=.int .i64 m)(hy:a.eval y=.int .i64 n):(execOp a.eval o).run prog w=.ok (.value (.int .i64 (min m n))) w:=by
 have h:(if n<m then n else m)=min m n:=by split<;>omega
 simp[execOp,ho,resolve,invoke,builtin,hx,hy,run_min_int2,h]
theorem FA(n:Int)(w:World):Calls prog 17 #[.int .i64 n] w fun e w'=>e=.returned (.agg (WA .u8 12 (C9 n)))∧Below w.heap.size w w':=by
 have hN:=XH n;have hmx:min (max n 0) 1099511627776=Cz n:=by unfold Cz;split<;>(try split)<;>omega
 have g0:ArrAt (w.alloc (.cells (WA .u8 12 fun _=>0) 26)) w.heap.size .u8 26 12 (fun _=>0):=heap_alloc_new w _;have hB:Below w.heap.size w (w.alloc (.cells (WA .u8 12 fun _=>0) 26)):=(Below.refl _ w).alloc (by simp) _;have HS:=Hid.mk (Z3 n);have HMX:=Hid.mk hmx;clear hmx;generalize Cz n=N at *;have hq:N.tdiv 1000=N/1000:=Ac8 hN.1;have hr:N.tmod 1000=N%1000:=Acz hN.1;obtain⟨A,hA⟩:∃A,A=N/1000:=⟨_,rfl⟩;obtain⟨B,hBd⟩:∃B,B=N%1000:=⟨_,rfl⟩;rw[←hA] at hq HS;rw[←hBd] at hr HS;have hA2:0≤A∧A≤1099511628:=by omega
 have hB2:0≤B∧B<1000:=by omega
 clear hA hBd;go_enter func17,ntmps17
 go_wp2_with (first|(refine Ae rfl (XJ rfl (by rfl) (by rfl)) ?_)|(refine Ae rfl (XK rfl (by rfl) (by rfl)) ?_;rw[HMX.out]))
 refine(Kj (4611686018427387914+A) 8 _ (by omega)).mono ?_;rintro e v1 ⟨rfl,hb1⟩;replace g0:=g0.kept hb1;replace hB:=hB.trans (hb1.mono hB.size);clear hb1;go_wp2_with fail;refine(Kj (B*1000000) 4 _ (by omega)).mono ?_;rintro e v2 ⟨rfl,hb2⟩;replace g0:=g0.kept hb2;replace hB:=hB.trans (hb2.mono hB.size);clear hb2;have HL:Hid ((mkS 8 (hiD (4611686018427387914+A) 8)).size+(mkS 4 (hiD (B*1000000) 4)).size≤9223372036854775807):=Hid.mk (by rw[Ar,Ar];omega);have HE:Hid ((mkS 8 (hiD (4611686018427387914+A) 8)++mkS 4 (hiD (B*1000000) 4)).size=12):=Hid.mk (by rw[ByteArray.size_append,Ar,Ar]);generalize mkS 8 (hiD (4611686018427387914+A) 8)=X at *;generalize mkS 4 (hiD (B*1000000) 4)=Y at *
 go_wp2_with (first|(refine Ae rfl (Be rfl (by rfl) (by rfl) HL.out) ?_)|(refine LZ (by rfl) HE.out ?_;intro v3 cp r3 hb3;refine Hid.out ?_))
 have hlt:=g0.lt;replace g0:=g0.kept hb3;replace hB:=hB.trans (hb3.mono hB.size);have hr3:=JL r3;clear hb3 r3;refine Hid.mk ?_
 go_wp2_with (first|(refine Ae rfl (Ma rfl (by rfl) (ZQ _ _ _)) ?_)|(refine Ae rfl (Ao rfl XF (by rfl) hr3) ?_)|(refine A1 XF g0 (by rfl) (by rfl) ?_;intro v7 g7 o7;refine Hid.out ?_))
 refine Hid.mk ?_;go_wp2_with fail;replace g7:=g7.congr HS.out;exact bodyPost_ret (AE results17 XF g7 (by rfl)) rfl ⟨rfl,hB.trans (o7.below (Acg _))⟩
def Kl(n:Int)(j:Nat):Int:=if j=0 then n else 0
theorem Si{n:Int}(h:0≤n∧n<256):Byts 32 (Kl n):=fun j _=>by unfold Kl;split<;>omega
theorem Sj(k:Nat):Byts k (fun _=>0):=fun _ _=>⟨Int.le_refl 0,of_decide_eq_true rfl⟩
theorem AaL(w:World):(Instr.build 22 #[]).run prog w=.ok (.agg (WA .u8 32 fun _=>0)) w:=by kernel_rfl
theorem Z4(w:World):(Instr.build 26 #[]).run prog w=.ok (.agg (WA .u8 12 fun _=>0)) w:=by kernel_rfl
theorem AaM(w:World):(Instr.build 22 #[(0,.int .u8 1)]).run prog w=.ok (.agg (WA .u8 32 (Kl 1))) w:=by kernel_rfl
theorem AaN(w:World):(Instr.build 22 #[(0,.int .u8 2)]).run prog w=.ok (.agg (WA .u8 32 (Kl 2))) w:=by kernel_rfl
theorem Sk{a:Act}{o:Oper}{w:World}(ho:o.op=.build 22 #[]):(execOp a.eval o).run prog w=.ok (.value (.agg (WA .u8 32 fun _=>0))) w:=by
 have h:=AaL w;unfold execOp;simp only[ho,Acs,Acq,Sem.run_bind,h,Result.andThen_ok,Sem.run_pure]
theorem XM{a:Act}{o:Oper}{w:World}(ho:o.op=.build 26 #[]):(execOp a.eval o).run prog w=.ok (.value (.agg (WA .u8 12 fun _=>0))) w:=by
 have h:=Z4 w;unfold execOp;simp only[ho,Acs,Acq,Sem.run_bind,h,Result.andThen_ok,Sem.run_pure]
theorem Z5{a:Act}{o:Oper}{w:World}(ho:o.op=.build 22 #[(0,.const (.int .u8 1))]):(execOp a.eval o).run prog w=.ok (.value (.agg (WA .u8 32 (Kl 1)))) w:=by
 have h:=AaM w;unfold execOp;simp only[ho,Acs,Acu,Acq,Act.eval,Sem.run_bind,h,Result.andThen_ok,Sem.run_pure]
theorem Z6{a:Act}{o:Oper}{w:World}(ho:o.op=.build 22 #[(0,.const (.int .u8 2))]):(execOp a.eval o).run prog w=.ok (.value (.agg (WA .u8 32 (Kl 2)))) w:=by
 have h:=AaN w;unfold execOp;simp only[ho,Acs,Acu,Acq,Act.eval,Sem.run_bind,h,Result.andThen_ok,Sem.run_pure]
theorem U4(w:World):(zeroValue 31).run prog w=.ok (.agg (SC 162 Bk)) w:=by kernel_rfl
theorem E9{ops:Array Oper}{rest:List Oper}{d:Option Tmp}{t:TypeId}{ps:String}{af:Array Edge}{a:Act}{w:World}{Q:Exit→Act→World→Prop}(h:∀w',SAt w' w.heap.size 31 162 Bk→Below w.heap.size w w'→wpList prog ops Q rest (a.put d (.pointer (some ⟨w.heap.size,0,none⟩))) w'):wpList prog ops Q ({ dst:=d,op:=.alloc 31,type:=t,pos:=ps,after:=af,guard:=none }::rest) a w:=
 CZ rfl (Bi U4 rfl (fun w' hb hg=>h w' hg hb))
theorem Z7(k:Int):Fld.tN k 0=0:=by
 unfold Fld.tN;have h:Fld.ofI (0%Fld.W255)=0:=Fld.fp_ext (by rw[Fld.ofI_val];decide +kernel);rw[h,Fld.lad_zero];rfl
theorem XN(k:Nat→Int):shZ k (fun _=>0)=false:=by
 unfold shZ;have h:nm (fun _=>0)=0:=by decide +kernel
 rw[h,Z7];rfl
theorem PF(w:World)(hE:Env w):Calls prog 11 #[.agg (WA .u8 32 fun _=>0),.string ⟨#[]⟩] w fun e w'=>e=.returned (.tuple #[.agg (SC 162 Bk),.agg (WA .u8 12 (fun _=>0)),.int .i64 10])∧Below w.heap.size w w':=
 DR (fun _=>0) ⟨#[]⟩ 10 w hE (fun u hu=>GR (fun _=>0) (Im (BT fun _=>0)) F1 ⟨#[]⟩ u hu (Sj 32) (GF 32) (JI _ 32) (fun h=>absurd h.1 (by decide)) (fun u hu=>DY _ u hu (GK _ 32)))
theorem Rc(O E T:Nat→Int)(ix:Int)(w:World)(hE:Env w)(hO:Byts 32 O)(hEk:Byts 32 E)(hT:Byts 12 T):Calls prog 9 #[.agg (WA .u8 32 O),.agg (WA .u8 32 fun _=>0),.agg (WA .u8 32 E),.agg (WA .u8 12 T),.int .u32 ix] w fun e w'=>e=.returned (.tuple #[.string ⟨#[]⟩,.agg (SC 162 Bk),.int .i64 18])∧Below w.heap.size w w':=
 Md O (fun _=>0) E T ix 18 w hE (fun u hu=>Nl O (fun _=>0) E T (Im fun _=>0) F1 ix u hu hO (Sj 32) hEk hT (GF 32) (JI _ 32) (XN E) (fun u hu=>DY _ u hu (Sj 32)))
theorem Rd(w:World)(hE:Env w):Calls prog 8 #[] w fun e w'=>e=.returned (.bool true)∧Below w.heap.size w w':=by
 have hB:Below w.heap.size w w:=Below.refl _ w;go_enter func8,ntmps8
 go_wp2_with (refine Ae rfl (Sk rfl) ?_)
 refine(PF _ hE).mono ?_;rintro x v1 ⟨rfl,hb⟩;replace hE:=hE.kept hb;replace hB:=hB.trans (hb.mono hB.size);clear hb;have l1:=hB.size;have k1:=hE.two
 go_wp2_with (refine E9 ?_;intro v2 g1 hb;refine Hid.out ?_)
 replace hE:=hE.kept hb;replace hB:=hB.trans (hb.mono hB.size);clear hb;refine Hid.mk ?_;have l2:=hB.size;have k2:=hE.two;have m2:=g1.lt
 go_wp2_with (refine EX ?_;intro v3 g2 hb;refine Hid.out ?_)
 replace hE:=hE.kept hb;replace hB:=hB.trans (hb.mono hB.size);replace g1:=g1.kept hb;clear hb;refine Hid.mk ?_
 go_wp2_with (refine En AV (Bu _ _ _ _ _ _ _) g1 (by rfl) (by rfl) ?_;intro v4 g4 o4;refine Hid.out ?_)
 replace hE:=hE.only o4 (by omega);replace hB:=hB.trans (o4.below l1);replace g2:=g2.only o4 (by omega);clear o4 g1 g4;refine Hid.mk ?_
 go_wp2_with (refine A1 Ax g2 (by rfl) (by rfl) ?_;intro v5 g5 o5;refine Hid.out ?_)
 replace hE:=hE.only o5 (by omega);replace hB:=hB.trans (o5.below l2);clear o5 g2 g5;refine Hid.mk ?_
 go_wp2_with (first|(refine Ae rfl (Sk rfl) ?_)|(refine Ae rfl (Z5 rfl) ?_)|(refine Ae rfl (Z6 rfl) ?_)|(refine Ae rfl (XM rfl) ?_))
 refine(Rc (Kl 1) (Kl 2) _ 3 _ hE (Si (by omega)) (Si (by omega)) (Sj 12)).mono ?_;rintro x v6 ⟨rfl,hb⟩;replace hE:=hE.kept hb;replace hB:=hB.trans (hb.mono hB.size);clear hb;have l6:=hB.size;have k6:=hE.two
 go_wp2_with (refine E9 ?_;intro v7 g7 hb;refine Hid.out ?_)
 replace hE:=hE.kept hb;replace hB:=hB.trans (hb.mono hB.size);clear hb;refine Hid.mk ?_
 go_wp2_with (refine En AV (Bu _ _ _ _ _ _ _) g7 (by rfl) (by rfl) ?_;intro v8 g8 o8;refine Hid.out ?_)
 replace hE:=hE.only o8 (by omega);replace hB:=hB.trans (o8.below l6);clear o8 g7 g8;refine Hid.mk ?_;go_wp2_with fail;refine(FA 1500 _).mono ?_;rintro x v9 ⟨rfl,hb⟩;replace hB:=hB.trans (hb.mono hB.size);clear hb hE;have l9:=hB.size
 go_wp2_with (refine EX ?_;intro v10 g10 hb;refine Hid.out ?_)
 replace hB:=hB.trans (hb.mono hB.size);clear hb;refine Hid.mk ?_
 go_wp2_with (refine A1 Ax g10 (by rfl) (by rfl) ?_;intro v11 g11 o11;refine Hid.out ?_)
 replace hB:=hB.trans (o11.below l9);clear o11 g10;have s7:C9 1500 7=11:=by decide +kernel
 have s8:C9 1500 8=29:=by decide +kernel
 have c7:=g11.cell 7 (by omega);have c8:=g11.cell 8 (by omega);rw[s7] at c7;rw[s8] at c8;have t21:=Sh 2 1 (by omega) (by omega);have t11:=Sh 1 1 (by omega) (by omega);have HS:=fun n=>Rb n 12
 refine Hid.mk ?_;go_wp2_with fail;refine(FA 2 _).mono ?_;rintro x v12 ⟨rfl,hb⟩;replace hB:=hB.trans (hb.mono hB.size);clear hb;go_wp2_with fail;refine(FA 1 _).mono ?_;rintro x v13 ⟨rfl,hb⟩;replace hB:=hB.trans (hb.mono hB.size);clear hb;go_wp2_with fail;refine(Nn (C9 2) (C9 1) _ (HS 2) (HS 1)).mono ?_;rintro x v14 ⟨rfl,hb⟩;replace hB:=hB.trans (hb.mono hB.size);clear hb;rw[t21];go_wp2_with fail;refine(FA 1 _).mono ?_;rintro x v15 ⟨rfl,hb⟩;replace hB:=hB.trans (hb.mono hB.size);clear hb;go_wp2_with fail;refine(FA 1 _).mono ?_;rintro x v16 ⟨rfl,hb⟩;replace hB:=hB.trans (hb.mono hB.size);clear hb;go_wp2_with fail;refine(Nn (C9 1) (C9 1) _ (HS 1) (HS 1)).mono ?_;rintro x v17 ⟨rfl,hb⟩;replace hB:=hB.trans (hb.mono hB.size);clear hb;rw[t11];go_wp2_with fail
 go_ret
 exact⟨rfl,hB⟩
theorem AaO:Tryz.prog.eqGuardType Tryz.prog.depth 26=false:=by kernel_rfl
section
variable (m:ByteArray) (to:Nat→Int) (c:ByteArray) (hc:c.size=0∨c.size=16)
include hc
end
theorem U5(O P E T:Nat→Int)(ix:Int)(w:World)(hE:Env w)(hO:Byts 32 O)(hP:Byts 32 P)(hEk:Byts 32 E)(hT:Byts 12 T):Calls prog 9 #[.agg (WA .u8 32 O),.agg (WA .u8 32 P),.agg (WA .u8 32 E),.agg (WA .u8 12 T),.int .u32 ix] w fun e w'=>e=.returned (Fr O P E T (Im P) F1 ix)∧Below w.heap.size w w':=by
 have hb:=fun u hu=>DY P u hu hP
 have h0:=JI P 32;have h1:=GF 32;generalize Im P=H0 at *;generalize F1=C0 at *;unfold Fr
 by_cases hz1:shZ E P=true
 ·by_cases hz2:shZ O P=true
  ·rw[if_pos ⟨hz1,hz2⟩]
   exact XC O P E T ix _ _ w hE (Bu _ _ _ _ _ _ _) (fun u hu=>XE O P E T H0 C0 ix u hu hO hP hEk hT h1 h0 hz1 hz2 hb)
  ·rw[if_neg (fun h=>hz2 h.2)]
   exact Md O P E T ix 18 w hE (fun u hu=>Uy O P E T H0 C0 ix u hu hO hP hEk hT h1 h0 hz1 (by simpa using hz2) hb)
 ·rw[if_neg (fun h=>hz1 h.1)]
  exact Md O P E T ix 18 w hE (fun u hu=>Nl O P E T H0 C0 ix u hu hO hP hEk hT h1 h0 (by simpa using hz1) hb)
theorem Z8(m:ByteArray)(n:UInt8)(h:4≤m.size):CR m 0 4=(n.toNat:Int)↔m.extract 0 4=⟨#[n,0,0,0]⟩:=by
 have h1:(m.extract 0 4).size=4:=by rw[ByteArray.size_extract];omega
 have h2:=Ni m 0 h;rw[Acl] at h2;rw[h2];exact P8 h1 n
theorem Re(O:Nat→Int)(m:ByteArray)(w:World)(hE:Env w)(hO:Byts 32 O):Calls prog 11 #[.agg (WA .u8 32 O),.string m] w fun e w'=>e=.returned (BM O (Im (BT O)) F1 m)∧Below w.heap.size w w':=by
 have hb:=fun u hu=>DY (BT O) u hu (GK O 32)
 have h0:=JI (BT O) 32;have h1:=GF 32;generalize Im (BT O)=H0 at *;generalize F1=C0 at *
 by_cases hs:m.size=148
 ·have hk:=Z8 m 1 (by omega)
  by_cases ht:m.extract 0 4=⟨#[1,0,0,0]⟩
  ·have hk1:CR m 0 4=1:=hk.2 ht
   by_cases hz1:shZ O (acE m)=true
   ·by_cases hz2:(acP O H0 C0 m).2=0
    ·by_cases hz3:shZ O (acK O H0 C0 m)=true
     ·by_cases hz4:(acT O H0 C0 m).2=0
      ·have hR:BM O H0 C0 m=.tuple #[.agg (SC 162 (Cl (QZ H0 m) (acM O H0 C0 m 0) (fun _=>0) (acE m) (acK O H0 C0 m) 0 (CR m 4 4))),.agg (WA .u8 12 (txt (acT O H0 C0 m).1)),.int .i64 0]:=by
        unfold BM;rw[if_neg (not_not_intro hs),if_neg (not_not_intro ht),if_neg (not_not_intro hz1),if_neg (not_not_intro hz2),if_neg (not_not_intro hz3),if_neg (not_not_intro hz4),Ni m 4 (by omega)]
       rw[hR];exact Uw O m _ _ w hE (Bu _ _ _ _ _ _ _) (fun u hu=>U3 O H0 C0 m u hu hO h1 h0 hs hk1 hz1 hz2 hz3 hz4 hb)
      ·have hR:BM O H0 C0 m=Gf 13:=by unfold BM;rw[if_neg (not_not_intro hs),if_neg (not_not_intro ht),if_neg (not_not_intro hz1),if_neg (not_not_intro hz2),if_neg (not_not_intro hz3),if_pos hz4]
       rw[hR];exact DR O m 13 w hE (fun u hu=>U2 O H0 C0 m u hu hO h1 h0 hs hk1 hz1 hz2 hz3 hz4 hb)
     ·have hR:BM O H0 C0 m=Gf 18:=by unfold BM;rw[if_neg (not_not_intro hs),if_neg (not_not_intro ht),if_neg (not_not_intro hz1),if_neg (not_not_intro hz2),if_pos hz3]
      rw[hR];exact DR O m 18 w hE (fun u hu=>U1 O H0 C0 m u hu hO h1 h0 hs hk1 hz1 hz2 (by simpa using hz3) hb)
    ·have hR:BM O H0 C0 m=Gf 13:=by unfold BM;rw[if_neg (not_not_intro hs),if_neg (not_not_intro ht),if_neg (not_not_intro hz1),if_pos hz2]
     rw[hR];exact DR O m 13 w hE (fun u hu=>U0 O H0 C0 m u hu hO h1 h0 hs hk1 hz1 hz2 hb)
   ·have hR:BM O H0 C0 m=Gf 18:=by unfold BM;rw[if_neg (not_not_intro hs),if_neg (not_not_intro ht),if_pos hz1]
    rw[hR];exact DR O m 18 w hE (fun u hu=>Uz O H0 C0 m u hu hO h1 h0 hs hk1 (by simpa using hz1) hb)
  ·have hR:BM O H0 C0 m=Gf 11:=by unfold BM;rw[if_neg (not_not_intro hs),if_pos ht]
   rw[hR]
   exact DR O m 11 w hE (fun u hu=>by
    have h:=GR O H0 C0 m u hu hO h1 h0 (fun h=>ht (hk.1 h.2)) hb;rw[if_pos hs] at h;exact h)
 ·have hR:BM O H0 C0 m=Gf 10:=by unfold BM;rw[if_pos hs]
  rw[hR]
  exact DR O m 10 w hE (fun u hu=>by
   have h:=GR O H0 C0 m u hu hO h1 h0 (fun h=>hs h.1) hb;rw[if_neg hs] at h;exact h)
def Iv(O E:Nat→Int)(ix:Int)(i:Nat):Value:=if i<32 then .int .u8 (O i) else if i<64 then .int .u8 (E (i-32)) else .int .u32 ix
section
variable {w:World} {b:Nat} {O E S R:Nat→Int} {ix l f:Int} {m:ByteArray}
theorem Sl(h:SAt w b 25 65 (Iv O E ix)):w.rangeAt b 0 (AC .u8 32 O):=h.range (by omega) (fun j hj=>by unfold Iv;rw[Acl,if_pos hj])
theorem Sn(h:SAt w b 25 65 (Iv O E ix)):w.rangeAt b 32 (AC .u8 32 E):=h.range (by omega) (fun j hj=>by unfold Iv;rw[if_neg (by omega),if_pos (by omega),Ac0])
theorem So(h:SAt w b 25 65 (Iv O E ix)):w.cell? ⟨b,64,none⟩=some (.int .u32 ix):=h.at 64 (by omega)
end
end Go.Proofs.YthghcjepdhkfdaaGreatDoor
