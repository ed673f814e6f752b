/-
  Own text. Sums, products and differences, digit by digit.
-/
import Derived.Test.YthghcjepdhkfdaaGreatDoorJB7
import Derived.Laws.OwnMore
import Derived.OwnWalk
import Derived.Deep.OwnRows
import Derived.Deep.LoopGhost
import Derived.Laws.CopyOwn
import Derived.Test.YthghcjepdhkfdaaGreatDoorJB1
import Derived.Test.YthghcjepdhkfdaaGreatDoorJB2
set_option maxHeartbeats 16000000
set_option maxRecDepth 100000
open Array renaming ext_getElem?→AcK,getD_eq_getD_getElem?→AcR,getElem?_append_left→AcJ,getElem?_eq_getElem→Acx,getElem?_eq_none→Acv,getElem?_setIfInBounds→AcI,length_toList→AcE,mem_of_getElem?→AcP
open Bool renaming and_eq_true→Acm
open Int renaming ediv_ediv_of_nonneg→AcO,emod_eq_of_lt→AcN,mul_add→Acw,mul_assoc→Acn,mul_comm→Acy,mul_le_mul_of_nonneg_right→AcT,pow_add→Ac2,pow_succ→Acr,reducePow→AcA
open List renaming getD_eq_getElem?_getD→AcG,getElem?_eq_getElem→Ac1,getElem?_map→AcL,getElem?_take→AcM,length_cons→AcC,length_take→AcF,map_cons→Acu,map_nil→Acq,map_toArray→Acs,range→Aco,setIfInBounds_toArray→Aci,set_cons_succ→Ach,set_cons_zero→Acj,take_of_length_le→AcD
open Nat renaming add_zero→Ac6,le_refl→Acg,le_trans→Acp,lt_or_ge→Ac5,zero_add→Acl
namespace Go.Proofs.YthghcjepdhkfdaaGreatDoor.Fld
open Go.RowKit Go.Proofs
open Tryz
structure Sum (X Y:List Int) (i:Nat) (ds:List Int):Prop where
 len:ds.length=16
 num:val ds=val X+val (Y.take i)
 lo:∀k,0≤ds.getD k 0∧ds.getD k 0<131072
 hi:∀k,i≤k→ds.getD k 0<65536
theorem Sum.start{X Y:List Int}(hX:Dgs 65536 X)(hl:X.length=16):Sum X Y 0 X:=
 ⟨hl,by simp[val],fun k=>⟨(hX.at (by omega) k).1,by have:=(hX.at (by omega) k).2;omega⟩,fun k _=>(hX.at (by omega) k).2⟩
theorem Sum.step{X Y:List Int}{i:Nat}{ds:List Int}(h:Sum X Y i ds)(hY:Dgs 65536 Y)(hl:Y.length=16)(hi:i<16):Sum X Y (i+1) (ds.set i (ds.getD i 0+Y.getD i 0)):=by
 have hn:=h.len;have hy:=hY.at (by omega) i;have h0:=h.lo i;have h1:=h.hi i (Acg _);refine⟨by simp[hn],?_,fun k=>?_,fun k hk=>?_⟩
 ·rw[FU _ _ _ (by omega),h.num,Eg Y i (by omega),Int.add_comm (ds.getD i 0),Int.add_sub_cancel];omega
 ·rw[Ch _ _ _ _ (by omega)]
  split
  ·omega
  ·exact h.lo k
 ·rw[Ch _ _ _ _ (by omega),if_neg (by omega)]
  exact h.hi k (by omega)
theorem Sum.done{X Y ds:List Int}(h:Sum X Y 16 ds)(hY:Y.length=16):val ds=val X+val Y∧Dgs 4398046511104 ds:=by
 refine⟨by rw[h.num,AcD (by omega)],Dgs.of fun k _=>⟨(h.lo k).1,by have:=(h.lo k).2;omega⟩⟩
structure Prd (X Y:List Int) (i k:Nat) (ds:List Int):Prop where
 len:ds.length=31
 num:val ds=val (X.take i)*val Y+65536 ^ i*X.getD i 0*val (Y.take k)
 lo:∀m,0≤ds.getD m 0∧ds.getD m 0≤4294967296*(i+1:Nat)
 hi:∀m,i+k≤m→ds.getD m 0≤4294967296*(i:Nat)
theorem L0(n m:Nat):(List.replicate n (0:Int)).getD m 0=0:=by
 by_cases h:m<n<;>simp[List.getD,h]
theorem Prd.start(X Y:List Int):Prd X Y 0 0 (List.replicate 31 0):=
 ⟨List.length_replicate,by rw[TH];simp[val],fun m=>by rw[L0];omega,fun m _=>by rw[L0];omega⟩
theorem Pa{a b:Int}(ha:0≤a∧a<65536)(hb:0≤b∧b<65536):0≤a*b∧a*b<4294967296:=by
 refine⟨Int.mul_nonneg ha.1 hb.1,?_⟩;have h1:a*b≤65535*b:=AcT (by omega) hb.1;omega
theorem Prd.step{X Y:List Int}{i k:Nat}{ds:List Int}(h:Prd X Y i k ds)(hX:Dgs 65536 X)(hY:Dgs 65536 Y)(hl:Y.length=16)(hi:i<16)(hk:k<16):Prd X Y i (k+1) (ds.set (i+k) (ds.getD (i+k) 0+X.getD i 0*Y.getD k 0)):=by
 have hn:=h.len;have hm:=Pa (hX.at (by omega) i) (hY.at (by omega) k);have h0:=h.lo (i+k);have h1:=h.hi (i+k) (Acg _);refine⟨by simp[hn],?_,fun m=>?_,fun m hm=>?_⟩
 ·rw[FU _ _ _ (by omega),h.num,Eg Y k (by omega),Int.add_comm (ds.getD (i+k) 0),Int.add_sub_cancel,Acw,Ac2]
  have e:(65536:Int) ^ i*65536 ^ k*(X.getD i 0*Y.getD k 0)=65536 ^ i*X.getD i 0*(65536 ^ k*Y.getD k 0):=by
   rw[Acn,Acn,Int.mul_left_comm (65536 ^ k)]
  rw[e];omega
 ·rw[Ch _ _ _ _ (by omega)]
  split
  ·omega
  ·exact h.lo m
 ·rw[Ch _ _ _ _ (by omega),if_neg (by omega)]
  exact h.hi m (by omega)
theorem Prd.next{X Y:List Int}{i:Nat}{ds:List Int}(h:Prd X Y i 16 ds)(hl:Y.length=16)(hX:X.length=16)(hi:i<16):Prd X Y (i+1) 0 ds:=by
 refine⟨h.len,?_,fun m=>⟨(h.lo m).1,by have:=(h.lo m).2;omega⟩,fun m _=>(h.lo m).2⟩;rw[h.num,AcD (l:=Y) (by omega),Eg X i (by omega),Int.add_mul];simp[val]
theorem Prd.done{X Y ds:List Int}(h:Prd X Y 16 0 ds)(hX:X.length=16):val ds=val X*val Y∧Dgs 4398046511104 ds:=by
 refine⟨by rw[h.num,AcD (by omega)];simp[val],Dgs.of fun k _=>⟨(h.lo k).1,by have:=(h.lo k).2;omega⟩⟩
theorem WB{ds:List Int}(h:Dgs 4398046511104 ds):val ds≤4398046511103*65536 ^ ds.length-4398046511103:=by
 induction ds with
 | nil=>simp[val]
 | cons x xs ih =>
  have h1:=h x (by simp);have h2:=ih (fun d hd=>h d (by simp[hd]));simp only[val,AcC,Acr];omega
theorem Aax{ds:List Int}(h:Dgs 4398046511104 ds)(hl:ds.length≤40):val ds<65536 ^ 44:=by
 have h1:=WB h;have h2:=FV hl;have e:(65536:Int) ^ 44=65536 ^ 40*65536 ^ 4:=by rw[←Ac2]
 rw[e];have h3:=CP 40;simp only[AcA] at *;omega
def pd(i:Nat):Int:=if i=15 then 32767 else if i=0 then 65517 else 65535
def Dif(X Y:List Int)(i:Nat):List Int:=(Aco 16).map fun j=>if j<i then X.getD j 0+pd j-Y.getD j 0 else X.getD j 0
theorem RK(X Y:List Int)(i:Nat):(Dif X Y i).length=16:=by simp[Dif]
theorem WC{X Y:List Int}(hl:X.length=16):Dif X Y 0=X:=by
 unfold Dif;simp only[Nat.not_lt_zero,if_false];exact OY hl
theorem YV(X Y:List Int){i:Nat}(hi:i<16):(Dif X Y i).getD i 0=X.getD i 0:=by
 unfold Dif;rw[GH _ hi];simp
theorem YW(X Y:List Int){i:Nat}(hi:i<16):(Dif X Y i).set i (X.getD i 0+pd i-Y.getD i 0)=Dif X Y (i+1):=by
 unfold Dif;have:=@map_set (fun j=>if j<i then X.getD j 0+pd j-Y.getD j 0 else X.getD j 0) (fun j=>if j<i+1 then X.getD j 0+pd j-Y.getD j 0 else X.getD j 0) 16 i hi
  (fun j _ hne=>by by_cases h:j<i<;>simp[h,show j<i+1↔j<i by omega])
 simpa using this
theorem YX{X Y:List Int}(hX:X.length=16)(hY:Y.length=16):val (Dif X Y 16)=val X+P255-val Y:=by
 obtain⟨a0,a1,a2,a3,a4,a5,a6,a7,a8,a9,a10,a11,a12,a13,a14,a15,rfl⟩:=NY hX;obtain⟨b0,b1,b2,b3,b4,b5,b6,b7,b8,b9,b10,b11,b12,b13,b14,b15,rfl⟩:=NY hY;simp[Dif,Aco,List.range.loop,val,pd];unfold P255;omega
theorem RL{X Y:List Int}{j:Nat}(hj:j<16):(Dif X Y 16).getD j 0=X.getD j 0+pd j-Y.getD j 0:=by
 unfold Dif;rw[GH _ hj,if_pos hj]
structure Bor (X Y:List Int) (i:Nat) (t:Int) (ds:List Int):Prop where
 len:ds.length=16
 num:val ds=val X+P255-val Y
 lo:∀k,k<i→0≤ds.getD k 0∧ds.getD k 0<131072
 at':i<16→ds.getD i 0=X.getD i 0+pd i-Y.getD i 0-t
 hi:∀k,i<k→k<16→ds.getD k 0=X.getD k 0+pd k-Y.getD k 0
 t01:t=0∨(t=1∧0<i∧65517<Y.getD 0 0∧∀k,1≤k→k<i→Y.getD k 0=65535)
theorem Bor.start{X Y:List Int}(hX:X.length=16)(hY:Y.length=16):Bor X Y 0 0 (Dif X Y 16):=
 ⟨RK _ _ _,YX hX hY,fun k hk=>by omega,fun h=>by rw[RL h];omega,fun k _ h=>by rw[RL h],.inl rfl⟩
theorem Bor.keep{X Y:List Int}{i:Nat}{t:Int}{ds:List Int}(h:Bor X Y i t ds)(hX:Dgs 65536 X)(hY:Dgs 65536 Y)(hi:i<15)(h0:0≤ds.getD i 0):Bor X Y (i+1) 0 ds:=by
 refine⟨h.len,h.num,fun k hk=>?_,fun h2=>by rw[h.hi (i+1) (by omega) h2];omega,fun k hk h2=>h.hi k (by omega) h2,.inl rfl⟩
 by_cases e:k=i
 ·subst e
  have h1:=h.at' (by omega);have hx:=hX.at (by omega) k;have hy:=hY.at (by omega) k;have hp:pd k≤65535:=by unfold pd;split<;>(try split)<;>omega
  rcases h.t01 with ht | ht<;>omega
 ·exact h.lo k (by omega)
theorem Bor.lend{X Y:List Int}{i:Nat}{t:Int}{ds:List Int}(h:Bor X Y i t ds)(hX:Dgs 65536 X)(hY:Dgs 65536 Y)(hi:i<15)(h0:ds.getD i 0<0):0≤ds.getD i 0+65536∧Bor X Y (i+1) 1 ((ds.set i (ds.getD i 0+65536)).set (i+1) (ds.getD (i+1) 0-1)):=by
 have hn:=h.len;have h1:=h.at' (by omega);have hx:=hX.at (by omega) i;have hy:=hY.at (by omega) i;have hp:pd i≤65535∧65517≤pd i:=by unfold pd;rw[if_neg (by omega)];split<;>omega
 have hge:0≤ds.getD i 0+65536:=by rcases h.t01 with ht | ht<;>omega
 refine⟨hge,by simp[hn],?_,fun k hk=>?_,fun h2=>?_,fun k hk h2=>?_,.inr ⟨rfl,by omega,?_⟩⟩
 ·rw[FU _ _ _ (by simp;omega),FU _ _ _ (by omega),Ch _ _ _ _ (by omega),if_neg (by omega),h.num,Acr]
  have e1:ds.getD i 0+65536-ds.getD i 0=65536:=by omega
  have e2:ds.getD (i+1) 0-1-ds.getD (i+1) 0=-1:=by omega
  rw[e1,e2];omega
 ·rw[Ch _ _ _ _ (by simp;omega),if_neg (by omega),Ch _ _ _ _ (by omega)]
  split
  ·omega
  ·exact h.lo k (by omega)
 ·rw[Ch _ _ _ _ (by simp;omega),if_pos rfl,h.hi (i+1) (by omega) h2]
 ·rw[Ch _ _ _ _ (by simp;omega),if_neg (by omega),Ch _ _ _ _ (by omega),if_neg (by omega)]
  exact h.hi k (by omega) h2
 ·by_cases e:i=0
  ·subst e
   have hp0:pd 0=65517:=rfl;refine⟨?_,fun k h1 h2=>by omega⟩
   rcases h.t01 with ht | ht<;>omega
  ·have hpi:pd i=65535:=by unfold pd;rw[if_neg (by omega),if_neg e]
   rcases h.t01 with ht | ⟨ht,_,h5,h6⟩
   ·omega
   ·refine⟨h5,fun k h7 h8=>?_⟩
    by_cases ek:k=i
    ·subst ek;omega
    ·exact h6 k h7 (by omega)
theorem Bor.done{X Y:List Int}{t:Int}{ds:List Int}(h:Bor X Y 15 t ds)(hX:Dgs 65536 X)(hY:Dgs 65536 Y)(hYl:Y.length=16)(hp:val Y<P255):val ds=val X+P255-val Y∧Dgs 4398046511104 ds:=by
 refine⟨h.num,Dgs.of fun k hk=>?_⟩;rw[h.len] at hk
 by_cases e:k=15
 ·subst e
  have h1:=h.at' (by omega);have hx:=hX.at (by omega) 15;have hy:=hY.at (by omega) 15;have hy0:=hY.at (by omega) 0;have hp15:pd 15=32767:=rfl
  have hs:65536 ^ 15*Y.getD 15 0≤val Y:=by
   have s1:=Eg Y 15 (by omega);rw[AcD (l:=Y) (i:=15+1) (by omega)] at s1;have s2:=(hY.take 15).nonneg;omega
  have h15:Y.getD 15 0≤32767:=by
   simp only[AcA] at hs;unfold P255 at hp;omega
  rcases h.t01 with ht | ⟨ht,_,h5,h6⟩
  ·omega
  ·have:=JC hYl (fun j a b=>h6 j a b)
   simp only[AcA] at this;unfold P255 at hp;omega
 ·have:=h.lo k (by omega);omega
def Dig(w:World)(B g cap:Nat)(ds:List Int):Prop:=w.ownsRow B 3 1 (.slice (some ⟨g,0,none⟩) ds.length cap) ds.length (ds.map (Value.int .i64))
theorem Dig.raw{w:World}{B g cap:Nat}{ds:List Int}(h:Dig w B g cap ds):B≤g∧ds.length≤cap∧∃cur,w.heap[g]?=some (.cells cur 3 (0,0)):=by
 rcases h.2 with ⟨h',_⟩ | ⟨g',cap',cur,h',hb,hg,hn,_⟩
 ·simp at h'
 ·simp only[Value.slice.injEq,Option.some.injEq,Addr.mk.injEq,and_true,true_and] at h'
  obtain⟨rfl,rfl⟩:=h';exact⟨hb,hn,cur,hg⟩
theorem Dig.lt{w:World}{B g cap:Nat}{ds:List Int}(h:Dig w B g cap ds):g<w.heap.size:=by
 obtain⟨_,_,cur,hg⟩:=h.raw;exact Aa hg
theorem Dig.cell{w:World}{B g cap:Nat}{ds:List Int}(h:Dig w B g cap ds)(i:Nat)(hi:i<ds.length):w.cell? ⟨g,i,none⟩=some (.int .i64 (ds.getD i 0)):=by
 rw[World.ownsRow.cellAt h i (by omega)];simp[hi]
theorem Dig.free{w:World}{B g cap:Nat}{ds:List Int}(h:Dig w B g cap ds)(i:Nat):w.frozen? ⟨g,i,none⟩=false:=World.ownsRow.frozenAt h i
theorem Dig.set{w:World}{B g cap:Nat}{ds:List Int}(h:Dig w B g cap ds)(i:Nat)(d:Int):Dig (w.setCell ⟨g,i,none⟩ (.int .i64 d)) B g cap (ds.set i d):=by
 have:=(World.ownsRow.stored h i (.int .i64 d)).1;unfold Dig;rw[List.length_set,List.map_set];exact this
theorem Dig.of_block{w w':World}{B g cap:Nat}{ds:List Int}(h:Dig w B g cap ds)(e:w'.heap[g]?=w.heap[g]?):Dig w' B g cap ds:=by
 refine⟨h.1,?_⟩
 rcases h.2 with hn | ⟨g',cap',cur,h',hb,hg,rest⟩
 ·exact .inl hn
 ·refine .inr ⟨g',cap',cur,h',hb,?_,rest⟩
  simp only[Value.slice.injEq,Option.some.injEq,Addr.mk.injEq,and_true,true_and] at h';obtain⟨rfl,rfl⟩:=h';exact e.trans hg
theorem Dig.below{w w':World}{B C g cap:Nat}{ds:List Int}(h:Dig w B g cap ds)(hb:Below C w w')(hC:g<C):Dig w' B g cap ds:=h.of_block (hb.block g hC)
theorem Dig.alloc{w:World}{B g cap:Nat}{ds:List Int}(h:Dig w B g cap ds)(o:Obj):Dig (w.alloc o) B g cap ds:=h.of_block (Below.heap_alloc _ _ _ h.lt)
theorem Dig.setOther{w:World}{B b i g cap:Nat}{ds:List Int}(h:Dig w B g cap ds)(v:Value)(hne:g≠b):Dig (w.setCell ⟨b,i,none⟩ v) B g cap ds:=h.of_block (heap_setCell_other _ _ _ _ (by simpa using hne))
theorem Dig.drewN{w:World}{B g cap:Nat}{ds:List Int}(h:Dig w B g cap ds)(n:Nat):Dig (w.drewN n) B g cap ds:=h.of_block rfl
theorem Dig.any{w:World}{B C g cap:Nat}{ds:List Int}(h:Dig w B g cap ds)(hC:C≤g):Dig w C g cap ds:=by
 refine⟨h.1,?_⟩
 rcases h.2 with hn | ⟨g',cap',cur,h',hb,rest⟩
 ·exact .inl hn
 ·have e:=h'
  simp only[Value.slice.injEq,Option.some.injEq,Addr.mk.injEq,and_true,true_and] at e;obtain⟨rfl,rfl⟩:=e;exact .inr ⟨g,cap,cur,h',hC,rest⟩
theorem B1:(Tryz.prog.info? 3).map (fun i=>(i.zero,i.size,i.bytes))=some (some (.int .i64 0),1,8):=by kernel_rfl
theorem Below.grow{B:Nat}{w w':World}{row:Option Nat}(hg:w.grownBy w' row)(hB:B≤w.heap.size)(hr:∀k,row=some k→B≤k):Below B w w':=
 ⟨hg.os,hg.tape,hg.output,hg.size,fun k hk=>hg.block k (by omega) (fun e=>by have:=hr k e.symm;omega)⟩
theorem Oa{ops:Array Oper}{rest:List Oper}{o:Oper}{a:Act}{w:World}{Q:Exit→Act→World→Prop}(hgd:o.guard=none)(s x:Operand)(ho:o.op=.call { callee:=.builtin .append,args:=#[s,x],argTypes:=#[171,171] }){B g cap:Nat}{ds:List Int}(hs:a.eval s=.slice (some ⟨g,0,none⟩) ds.length cap)(hD:Dig w B g cap ds)(b:Nat)(d:Int)(hx:a.eval x=.slice (some ⟨b,0,none⟩) 1 1)(hc:w.cell? ⟨b,0,none⟩=some (.int .i64 d))(hl:ds.length<1000000)(hB:B≤w.heap.size)(h:∀g' cap' w',Dig w' B g' cap' (ds++[d])→Below B w w'→wpList prog ops Q rest (a.put o.dst (.slice (some ⟨g',0,none⟩) (ds.length+1) cap')) w'):wpList prog ops Q (o::rest) a w:=by
 obtain⟨i0,hi,hz0,hz1,hz2⟩:=info_parts B1;refine wpList_append_own w hgd s x 171 ho B 3 i0 (.int .i64 0) 1 8 underlying171 hi hz0 hz1 hz2 rfl (by decide) _ ds.length _ hs hD ⟨b,0,none⟩ 1 1 [.int .i64 d] hx rfl ?_ ?_ ?_ ?_ hB ?_
 ·intro j u hj
  match j,hj with
  | 0,hj=>simp at hj;subst hj;simpa [Addr.add] using hc
 ·intro u hu;simp at hu;subst hu;rfl
 ·unfold maxLen;omega
 ·omega
 ·intro v' w1 hown hgrow hnil
  have hne:v'≠.slice none 0 0:=fun e=>by have:=(hnil.1 e).1;simp at this
  have hbl:=hD.raw.1
  rcases hown.2 with ⟨e,_⟩ | ⟨g',cap',cur,rfl,hr⟩
  ·exact absurd e hne
  ·exact h g' cap' w1 (by unfold Dig;rw[List.length_append,List.map_append];exact hown) (Below.grow hgrow hB (fun k hk=>by simp[Value.ownBlock] at hk;omega))
theorem Pb(w:World)(n:Nat)(hn:n≤1000000):Dig (w.alloc (.cells (madeCells #[.int .i64 0] n) 3)) w.heap.size w.heap.size n (List.replicate n 0):=by
 have h:=World.ownsRow_lit (base:=w.heap.size) (e:=3) (size:=1) w (madeCells #[.int .i64 0] n) n (Acg _) (by unfold maxLen;omega) (by rw[←AcE,toList_madeCells_one];simp);rw[toList_madeCells_one] at h;unfold Dig;simp only[List.length_replicate,List.map_replicate];exact h
theorem TN(w:World)(o:Obj)(n:Nat)(hn:n≤1000000):Dig ((w.alloc o).alloc (.cells (madeCells #[.int .i64 0] n) 3)) w.heap.size (w.heap.size+1) n (List.replicate n 0):=by
 have h:=Pb (w.alloc o) n hn;have e:(w.alloc o).heap.size=w.heap.size+1:=by simp
 rw[e] at h;exact h.any (by omega)
theorem Aae(w:World):(Instr.makeSlice 171 (.int .i64 16) (.int .i64 16)).run prog w=.ok (.slice (some ⟨w.heap.size,0,none⟩) 16 16) (w.alloc (.cells (madeCells #[.int .i64 0] 16) 3)):=
 run_make_row' 171 3 (.int .i64 0) 8 underlying171 B1 rfl .i64 .i64 16 (by omega) (by omega) w
theorem YY(n:Int):LD n 0=List.replicate 16 0:=by
 unfold LD;simp only[Nat.not_lt_zero,if_false];rfl
theorem ES(n:Int)(w:World):Calls prog 154 #[.agg (BA n)] w fun e w'=>∃g,e=.returned (.slice (some ⟨g,0,none⟩) 16 16)∧Dig w' w.heap.size g 16 (LD n 16)∧Below w.heap.size w w':=by
 have hmk:=Aae;go_enter func154,ntmps154;go_wp2;refine AJ (fun v=>v.heap[w.heap.size]?=some (.cells (BA n) 22 (0,0))∧Dig v w.heap.size (w.heap.size+1) 16 (LD n 0)∧Below w.heap.size w v)
  ⟨(Below.heap_alloc _ _ _ (by simp)).trans (heap_alloc_new w _),by rw[YY];exact TN w _ 16 (by omega),
   by repeat first | exact Below.refl _ _ | refine Below.alloc ?_ (by simp<;>omega) _⟩ ?_
 rintro v0 ⟨ga,hd,hB⟩
 go_loopw [4] (fun i v=>∃k:Nat,k≤16∧i=.int .i64 k∧v.heap[w.heap.size]?=some (.cells (BA n) 22 (0,0))∧Dig v w.heap.size (w.heap.size+1) 16 (LD n k)∧Below w.heap.size w v) (fun i _=>16-(intOf i).toNat)
 case atStart=>exact⟨0,by omega,rfl,ga,hd,hB⟩
 case round =>
  clear ga hd hB;obtain⟨k,hk,rfl,ga,hd,hB⟩:=hrel
  by_cases hlt:k<16
  ·have c0:=(cell_of_row wr _ (2*k) _ _ _ ga).trans (BH n (2*k) (by omega))
   have c1:=(cell_of_row wr _ (2*k+1) _ _ _ ga).trans (BH n (2*k+1) (by omega));have cs:=hd.cell k (by rw[Do];exact hlt);have fs:=hd.free k;have hb0:=Bq n (2*k);have hb1:=Bq n (2*k+1);unfold BR at hb0 hb1;obtain⟨hb00,hb01⟩:=hb0;obtain⟨hb10,hb11⟩:=hb1;have HS:=Hid.mk (Aaw n hlt);generalize byt n (2*k)=x at *;generalize byt n (2*k+1)=y at *;go_wp2
   go_region
   go_wp2
   go_roundw
   case rel=>exact⟨k+1,by omega,by go_num,(heap_setCell_other _ _ _ _ (by simp)).trans ga,by rw[←HS.out];exact(hd.set k _).drewN 1,Below.drew (Below.setCell hB (by simp) _)⟩
   case measure=>simp[intOf];omega
  ·have hk2:k=16:=by omega
   subst hk2;go_wp2
   go_ret
   exact⟨_,rfl,hd,hB⟩
theorem IL(w:World)(d:Int):(w.alloc (.cells #[.int .i64 d] 3)).cell? ⟨w.heap.size,0,none⟩=some (.int .i64 d):=by simp
theorem szb{w:World}{B g cap:Nat}{ds:List Int}{o:Obj}(h:Dig w B g cap ds):B≤(w.alloc o).heap.size:=by
 have h1:=h.lt;have h2:=h.raw.1;simp;omega
def lenOf:Value→Nat
 | .slice _ n _=>n
 | _=>0
theorem GI(B b cap:Nat)(ds:List Int)(w:World)(hD:Dig w B b cap ds)(hd:Dgs 4398046511104 ds)(hl:ds.length≤44)(hv:val ds<65536 ^ 44):Calls prog 190 #[.slice (some ⟨b,0,none⟩) ds.length cap] w fun e w'=>∃g c es,e=.returned (.slice (some ⟨g,0,none⟩) es.length c)∧Cared ds es∧Dig w' w.heap.size g c es∧Below w.heap.size w w':=by
 obtain⟨i0,hi,hz0,hz1,hz2⟩:=info_parts B1;have HD:=Hid.mk hd;have HV:=Hid.mk hv;have hb:=hD.lt;clear hd hv;go_enter func190,ntmps190
 go_wp2_with (at_make;refine wpList_make_own _ rfl _ _ 171 rfl w.heap.size 3 i0 (.int .i64 0) 1 underlying171 hi hz0 hz1 _ _ _ (ds.length+4) rfl rfl (by omega) (by rw[hz2];omega) (by unfold maxLen;omega) (Acg _) ?_;intro w1 hown hgrow)
 have hd1:Dig w1 w.heap.size w.heap.size (ds.length+4) []:=hown;have hB1:Below w.heap.size w w1:=Below.grow hgrow (Acg _) (fun k hk=>by cases hk);clear hown hgrow
 go_loopw [3,4,5] (fun v c i wr=>∃(k:Nat) (c':Int) (es:List Int) (g cp:Nat),v=.slice (some ⟨g,0,none⟩) es.length cp∧c=.int .i64 c'∧i=.int .i64 k∧Car ds k c' es∧Dig wr w.heap.size g cp es∧Below w.heap.size w wr) (fun _ _ i _=>44-(intOf i).toNat)
 case atStart=>exact⟨0,0,[],_,_,rfl,rfl,rfl,Car.start ds,hd1,hB1⟩
 case round =>
  clear hd1 hB1;obtain⟨k,c',es,g,cp,rfl,rfl,rfl,car,hdg,hB⟩:=hrel;have hk44:=car.k44;have hc0:=car.c0;have hc1:=car.c1;have hel:=car.len;have HEL:=Hid.mk hel;have hls:es.length<1000000:=by omega
  clear hel
  by_cases hlt:k<ds.length
  ·have cx:=(hD.below hB hb).cell k hlt
   have hx:=HD.out.at (by omega) k;have hx0:=hx.1;have hx1:=hx.2;clear hx;have CS:=Hid.mk (car.step HD.out hl hlt);clear car;generalize ds.getD k 0=x at *
   go_wp2_with (at_builtin;refine Oa rfl (.tmp 30) (.tmp 33) rfl rfl (hdg.alloc _) wr.heap.size ((c' + x)%65536) rfl (IL _ _) hls (szb hdg) ?_;intro g' cp' w2 hdg' hb2)
   go_roundw
   case rel=>exact⟨k+1,_,_,g',cp',by simp,rfl,by go_num,CS.out,hdg',Below.trans (hB.alloc hB.size _) hb2⟩
   case measure=>simp[intOf];omega
  ·by_cases hc:0<c'
   ·have CS:=Hid.mk (car.over HV.out (by omega) hc)
    clear car;have h44:k<44:=by have:=CS.out.k44;omega
    go_wp2_with (at_builtin;refine Oa rfl (.tmp 30) (.tmp 33) rfl rfl (hdg.alloc _) wr.heap.size (c' % 65536) rfl (IL _ _) hls (szb hdg) ?_;intro g' cp' w2 hdg' hb2)
    go_roundw
    case rel=>exact⟨k+1,_,_,g',cp',by simp,rfl,by go_num,CS.out,hdg',Below.trans (hB.alloc hB.size _) hb2⟩
    case measure=>simp[intOf];omega
   ·have hc2:c'=0:=by omega
    subst hc2;have pad:=car.done (by omega);clear car hk44 hc0 hc1 HEL hls hc;go_wp2
    go_loopw [3] (fun v wr=>∃(es:List Int) (g cp:Nat),v=.slice (some ⟨g,0,none⟩) es.length cp∧Pad ds es∧Dig wr w.heap.size g cp es∧Below w.heap.size w wr) (fun v _=>16-lenOf v)
    case atStart=>exact⟨es,g,cp,rfl,pad,hdg,hB⟩
    case round =>
     clear pad hdg hB;obtain⟨es,g,cp,rfl,pad,hdg,hB⟩:=hrel
     by_cases h16:es.length<16
     ·have PS:=Hid.mk (pad.zero h16)
      clear pad
      go_wp2_with (at_builtin;refine Oa rfl (.tmp 40) (.tmp 41) rfl rfl (hdg.alloc _) wr.heap.size 0 rfl (IL _ _) (by omega) (szb hdg) ?_;intro g' cp' w2 hdg' hb2)
      go_roundw
      case rel=>exact⟨_,g',cp',by simp,PS.out,hdg',Below.trans (hB.alloc hB.size _) hb2⟩
      case measure=>simp[lenOf];omega
     ·have PS:=Hid.mk (pad.done (by omega))
      clear pad;go_wp2
      go_ret
      exact⟨g,cp,es,rfl,PS.out,hdg,hB⟩
theorem Pc(B g cap:Nat)(X:List Int)(w:World)(hD:Dig w B g cap X)(hl:X.length=16)(hd:Dgs 65536 X)(h15:X.getD 15 0<32768):Calls prog 191 #[.slice (some ⟨g,0,none⟩) 16 cap] w fun e w'=>e=.returned (.bool (decide (P255≤val X)))∧w'=w:=by
 have HL:=Hid.mk hl;have HN:=Hid.mk (OZ hd hl h15);have HY:=Hid.mk (MV hd hl h15);have HDD:=Hid.mk hD;have c0:=hD.cell 0 (by omega);have c15:=hD.cell 15 (by omega);clear hl hd h15 hD;go_enter func191,ntmps191;go_wp2
 go_loopw [3] (fun i v=>∃k:Nat,1≤k∧k≤15∧i=.int .i64 k∧Hid (∀j,1≤j→j<k→X.getD j 0=65535)∧v=w) (fun i _=>15-(intOf i).toNat)
 case atStart=>exact⟨1,by omega,by omega,rfl,Hid.mk (fun j h1 h2=>by omega),rfl⟩
 case round =>
  obtain⟨k,hk1,hk,rfl,HA,rfl⟩:=hrel
  by_cases hlt:k<15
  ·have cx:=HDD.out.cell k (by have:=HL.out;omega)
   by_cases hx:X.getD k 0=65535
   ·have HX:=Hid.mk hx
    rw[hx] at cx;clear hx;go_wp2
    go_roundw
    case rel=>exact⟨k+1,by omega,by omega,by go_num,Hid.mk (fun j h1 h2=>by by_cases e:j=k;exact e▸HX.out;exact HA.out j h1 (by omega)),by first | trivial | rfl⟩
    case measure=>simp[intOf];omega
   ·have e:decide (P255≤val X)=false:=by
     have:=HN.out k hk1 hlt hx;simp;omega
    generalize X.getD k 0=x at *;have E:=Hid.mk e;clear e;go_wp2
    go_ret
    exact⟨by rw[E.out];rfl,rfl⟩
  ·have hk2:k=15:=by omega
   subst hk2;have hy:=HY.out (fun j h1 h2=>HA.out j h1 h2)
   by_cases h1:X.getD 15 0=32767
   ·by_cases h2:65517≤X.getD 0 0
    ·have e:decide (P255≤val X)=true:=by simpa using hy.1 ⟨h1,h2⟩
     have E:=Hid.mk e;rw[h1] at c15;clear hy e;generalize X.getD 0 0=x at *;go_wp2
     go_ret
     exact⟨by rw[E.out];rfl,rfl⟩
    ·have e:decide (P255≤val X)=false:=by simp only[decide_eq_false_iff_not];exact fun h=>h2 (hy.2 h).2
     have E:=Hid.mk e;rw[h1] at c15;clear hy e;generalize X.getD 0 0=x at *;go_wp2
     go_ret
     exact⟨by rw[E.out];rfl,rfl⟩
   ·have e:decide (P255≤val X)=false:=by simp only[decide_eq_false_iff_not];exact fun h=>h1 (hy.2 h).1
    have E:=Hid.mk e;clear hy e;generalize X.getD 15 0=x at *;go_wp2
    go_ret
    exact⟨by rw[E.out];rfl,rfl⟩
theorem Abz:(Tryz.prog.info? 3).map (·.size)=some 1:=by kernel_rfl
theorem Aay(w:World):(Instr.makeSlice 171 (.int .i64 16) (.int .i64 40)).run prog w=.ok (.slice (some ⟨w.heap.size,0,none⟩) 16 40) (w.alloc (.cells (madeCells #[.int .i64 0] 40) 3)):=by kernel_rfl
theorem Aaz{ops:Array Oper}{rest:List Oper}{o:Oper}{a:Act}{w:World}{Q:Exit→Act→World→Prop}(hgd:o.guard=none)(d s:Operand)(ho:o.op=.call { callee:=.builtin .copy,args:=#[d,s],argTypes:=#[171,171] })(B g cp c y:Nat)(X:List Int)(hd:a.eval d=.slice (some ⟨y,0,none⟩) 16 40)(hs:a.eval s=.slice (some ⟨g,0,none⟩) 16 c)(hX:Dig w B g cp X)(h16:16≤X.length)(hy:w.heap[y]?=some (.cells (madeCells #[.int .i64 0] 40) 3 (0,0)))(h:∀w',Dig w' y y 40 (X.take 16)→Only y w w'→wpList prog ops Q rest (a.put o.dst (.int .i64 16)) w'):wpList prog ops Q (o::rest) a w:=by
 have hcl:((X.take 16).map (Value.int .i64)).length=16:=by simp;omega
 have hms:(madeCells #[Value.int .i64 0] 40).size=40:=by rw[←AcE,toList_madeCells_one];simp
 refine wpList_copy_own hgd d s 171 171 ho 3 underlying171 Abz y 0 16 40 ⟨g,0,none⟩ 16 c hd hs (madeCells #[.int .i64 0] 40) 3 hy ((X.take 16).map (Value.int .i64)) (by rw[hcl];rfl) ?_ (by rw[hcl,hms];omega) (ints_oneCell .i64 _) ?_
 ·intro j v hj
  have hj16:j<16:=by have:=(List.getElem?_eq_some_iff.1 hj).1;omega
  have hc:=hX.cell j (by omega)
  have e:((X.take 16).map (Value.int .i64))[j]?=some (.int .i64 (X.getD j 0)):=by
   simp[hj16,List.getD,show j<X.length by omega]
  rw[e] at hj;rw[Addr.add_lit,Acl,hc,←Option.some.inj hj]
 ·rw[hcl]
  refine h _ ?_ (Cd w y _);have hlen:(X.take 16).length=16:=by simp;omega
  refine⟨by simp,.inr ⟨y,40,_,rfl,Acg _,setRow_heap w y _ _ 3 (0,0) hy,by rw[hlen];omega,by unfold maxLen;omega,?_,?_⟩⟩
  ·rw[←AcE,List.toList_toArray]
   simp only[List.take_zero,List.nil_append,List.length_append,List.length_drop,hcl,AcE,hms]
  ·rw[List.toList_toArray,List.take_zero,List.nil_append,Nat.mul_one,hlen,List.take_append_of_le_length (by rw[hcl];omega),AcD (by rw[hcl];omega)]
theorem TO{B g cap:Nat}{ds:List Int}{w:World}(hl:ds.length=16)(hD:Dig w B g cap ds)(hd:Dgs 4398046511104 ds)(hv:val ds<65536 ^ 44):Calls prog 190 #[.slice (some ⟨g,0,none⟩) 16 cap] w fun e w'=>∃g c es,e=.returned (.slice (some ⟨g,0,none⟩) es.length c)∧Cared ds es∧Dig w' w.heap.size g c es∧Below w.heap.size w w':=by
 have:=GI B g cap ds w hD hd (by omega) hv
 rwa [hl] at this
theorem WD(B b cap:Nat)(ds:List Int)(w:World)(hD:Dig w B b cap ds)(hd:Dgs 4398046511104 ds)(hl:ds.length≤44)(hv:val ds<65536 ^ 44):Calls prog 153 #[.slice (some ⟨b,0,none⟩) ds.length cap] w fun e w'=>e=.returned (.agg (BA (val ds%P255)))∧Below w.heap.size w w':=by
 have hmk:=Aay;obtain⟨n,hn⟩:∃n,n=val ds:=⟨_,rfl⟩;rw[←hn];have HN:=Hid.mk hn;clear hn;have HD:=Hid.mk hD;have HDG:=Hid.mk hd;have HL:=Hid.mk hl;have HV:=Hid.mk hv;clear hD hd hl hv;go_enter func153,ntmps153;go_wp2_with fail;refine(GI B b cap ds _ (HD.out.alloc _) HDG.out HL.out HV.out).mono ?_;rintro e v1 ⟨g,cp,es,rfl,hc,hdg0,hb1⟩;have gz:=Aj hb1 (heap_alloc_new w _) (by simp);have hB:=Below.trans ((Below.refl _ w).alloc (Acg _) _) (hb1.mono (by simp));have rst:=Rst.start hc;rw[←HN.out] at rst;have hdg:=hdg0.any (C:=w.heap.size+1) (by have:=hdg0.raw.1;simp at this;omega);clear hb1 hc hdg0;go_wp2_with fail
 go_loopg [0] ((val es).toNat*100+es.length) (fun m x v=>∃(X:List Int) (g cp:Nat),m=(val X).toNat*100+X.length∧x=.slice (some ⟨g,0,none⟩) X.length cp∧Rst n X∧Dig v (w.heap.size+1) g cp X∧v.heap[w.heap.size]?=some (.cells (BA 0) 22 (0,0))∧Below w.heap.size w v)
 case atStart=>exact⟨es,g,cp,rfl,rfl,rst,hdg,gz,hB⟩
 case round =>
  clear rst hdg gz hB;obtain⟨X,g,cp,hm,rfl,rst,hdg,gz,hB⟩:=hrel;have HM:=Hid.mk hm;clear hm;have h16:=rst.l16;have h44:=rst.l44;have hcp:=hdg.raw.2.1
  by_cases hlt:16<X.length
  ·have hsz:=hdg.lt
   go_wp2_with (refine Aaz rfl (.tmp 15) (.tmp 17) rfl (w.heap.size+1) g cp _ wr.heap.size X rfl rfl (hdg.alloc _) (by omega) (heap_alloc_new wr _) ?_;intro v2 hy hoy)
   have hbw:Below wr.heap.size wr v2:=Below.trans ((Below.refl _ wr).alloc (Acg _) _) (hoy.below (Acg _));clear hoy;have f0:=Fold.start rst.dgs h16;generalize hbs:wr.heap.size=bs at *;generalize wr=wo at *;generalize gk=m1 at *
   go_loopg [3,4] (X.length-16) (fun m y i v=>∃(j:Nat) (ys:List Int) (yg yc:Nat),Hid (m+j+16=X.length)∧y=.slice (some ⟨yg,0,none⟩) ys.length yc∧i=.int .i64 ((j:Int)+16)∧Fold X j j ys∧Dig v bs yg yc ys∧Below bs wo v)
   case atStart=>exact⟨0,_,_,_,Hid.mk (by omega),by rw[AcF,Nat.min_eq_left h16],rfl,f0,hy,hbw⟩
   case round =>
    clear f0 hy hbw;obtain⟨j,ys,yg,yc,HJ,rfl,rfl,fo,hy,hbw⟩:=hrel;have hj16:j+16≤X.length:=by have:=HJ.out;omega
    by_cases hj:j+16<X.length
    ·generalize gk=m2 at *
     go_wp2;generalize Value.bool (decide ((j:Int)+16<(X.length:Int)))=b22
     go_loopg [3] (j+1-ys.length) (fun m y v=>∃(ys:List Int) (yg yc:Nat),Hid (m=j+1-ys.length)∧y=.slice (some ⟨yg,0,none⟩) ys.length yc∧Fold X j (j+1) ys∧Dig v bs yg yc ys∧Below bs wo v)
     case atStart=>exact⟨ys,yg,yc,Hid.mk rfl,rfl,fo.wide,hy,hbw⟩
     case round =>
      clear fo hy hbw;obtain⟨ys,yg,yc,HG,rfl,fo,hy,hbw⟩:=hrel
      by_cases hle:ys.length≤j
      ·have FZ:=Hid.mk (fo.zero hle)
       clear fo
       go_wp2_with (at_builtin;refine Oa rfl (.tmp 31) (.tmp 32) rfl rfl (hy.alloc _) wr.heap.size 0 rfl (IL _ _) (by omega) (szb hy) ?_;intro g' cp' w2 hdg' hb2)
       go_roundg (j+1-(ys.length+1))
       case rel=>exact⟨_,g',cp',Hid.mk (by simp),by simp,FZ.out,hdg',Below.trans (hbw.alloc (by have:=hy.lt;have:=hy.raw.1;omega) _) hb2⟩
       case measure=>have:=HG.out;omega
      ·have FS:=Hid.mk (fo.step rst.dgs (by omega) hj)
       have hylo:=fo.lo j;have hyl:=hylo.1;have hyh:=hylo.2;have hxr:=rst.dgs.at (by omega) (16+j);have hx0:=hxr.1;have hx1:=hxr.2;clear hylo hxr fo;have cx:wr.cell? ⟨g,j+16,none⟩=some (.int .i64 (X.getD (16+j) 0)):=by rw[Nat.add_comm j 16];exact(hdg.below hbw (by omega)).cell (16+j) (by omega)
       have cy:=hy.cell j (by omega);have fy:=hy.free j;generalize X.getD (16+j) 0=x at *;generalize ys.getD j 0=z at *;go_wp2
       go_region
       go_wp2
       go_roundg (X.length-16-(j+1))
       case rel=>exact⟨j+1,_,yg,yc,Hid.mk (by omega),by simp,by go_num,FS.out,(hy.set j _).drewN 1,Below.drew (Below.setCell hbw (by exact hy.raw.1) _)⟩
       case measure=>have:=HJ.out;omega
    ·have hs0:=Aa gz
     have e16:j=X.length-16:=by omega
     have FP:=Hid.mk (rst.fold_pre (e16▸fo));have FF:=Hid.mk (fun es c=>rst.fold (es:=es) hlt (e16▸fo) c);clear fo e16;go_wp2_with fail;refine(GI bs yg yc ys _ hy FP.out.1 FP.out.2.1 FP.out.2.2).mono ?_;rintro e v3 ⟨g3,c3,es3,rfl,hc3,hd3,hb3⟩;have hB3:Below w.heap.size w v3:=Below.trans hB (Below.trans (hbw.mono (by omega)) (hb3.mono (by have:=hbw.size;omega)));have gz3:v3.heap[w.heap.size]?=some (.cells (BA 0) 22 (0,0)):=Aj hb3 (Aj hbw gz (by omega)) (by have:=hbw.size;omega);have hr3:=FF.out es3 hc3;have hd3:=hd3.any (C:=w.heap.size+1) (by have:=hd3.raw.1;have:=hbw.size;omega);clear hb3 hc3 hbw hy;go_wp2
     go_roundg ((val es3).toNat*100+es3.length)
     case rel=>exact⟨es3,g3,c3,rfl,rfl,hr3.1,hd3,gz3,hB3⟩
     case measure=>have:=HM.out;omega
  ·have hx16:X.length=16:=by omega
   clear h16 h44 hlt HM;go_wp2_with fail
   go_loopg [0] (val X).toNat (fun m x v=>∃(X:List Int) (g cp:Nat),Hid (m=(val X).toNat)∧Hid (X.length=16)∧x=.slice (some ⟨g,0,none⟩) 16 cp∧Rst n X∧Dig v (w.heap.size+1) g cp X∧v.heap[w.heap.size]?=some (.cells (BA 0) 22 (0,0))∧Below w.heap.size w v)
   case atStart=>exact⟨X,g,cp,Hid.mk rfl,Hid.mk hx16,by rw[hx16],rst,hdg,gz,hB⟩
   case round =>
    clear rst hdg gz hB hcp hx16;obtain⟨X,g,cp,HM,HX,rfl,rst,hdg,gz,hB⟩:=hrel;have hx15:=rst.dgs.at (by omega) 15;have c15:=hdg.cell 15 (by have:=HX.out;omega);have c0:=hdg.cell 0 (by have:=HX.out;omega);have f15:=hdg.free 15;have f0:=hdg.free 0;have hs1:=hdg.lt;have hs2:=hdg.raw.1
    by_cases hge:32768≤X.getD 15 0
    ·have FP:=Hid.mk (Qy rst HX.out hge)
     have FF:=Hid.mk (fun es c=>rst.fold15 (es:=es) HX.out hge c);have hx00:=rst.dgs.at (by omega) 0;have hd5:Dig (((wr.setCell ⟨g,0,none⟩ (.int .i64 (X.getD 0 0+19*(X.getD 15 0/32768)))).drew).setCell ⟨g,15,none⟩ (.int .i64 (X.getD 15 0%32768))) (w.heap.size+1) g cp (fold15 X):=((hdg.set 0 _).drewN 1).set 15 _;have HD5:=Hid.mk hd5;clear hd5;have h150:=hx15.1;have h151:=hx15.2;have h000:=hx00.1;have h001:=hx00.2;clear hx15 hx00 rst;generalize X.getD 15 0=x15 at *;generalize X.getD 0 0=x0 at *;go_wp2
     go_region
     go_wp2_with fail;refine(TO (by rw[Lx];exact HX.out) HD5.out FP.out.1 FP.out.2).mono ?_;rintro e v3 ⟨g3,c3,es3,rfl,hc3,hd3,hb3⟩;have hr3:=FF.out es3 hc3;have hs3:w.heap.size<wr.heap.size:=by omega
     have hB3:Below w.heap.size w v3:=Below.trans (Below.setCell (Below.drew (Below.setCell hB (by simp;omega) _)) (by simp;omega) _) (hb3.mono (by simp;omega));have gz3:v3.heap[w.heap.size]?=some (.cells (BA 0) 22 (0,0)):=Aj hb3 ((heap_setCell_other _ _ _ _ (by simp;omega)).trans ((heap_setCell_other _ _ _ _ (by simp;omega)).trans gz)) (by simp;omega);have hd3:=hd3.any (C:=w.heap.size+1) (by have:=hd3.raw.1;simp at this;omega);have e3:es3.length=16:=hr3.2.1;clear hb3 hc3;go_wp2
     go_roundg (val es3).toNat
     case rel=>exact⟨es3,g3,c3,Hid.mk rfl,Hid.mk e3,by simp,hr3.1,hd3,gz3,hB3⟩
     case measure=>have:=HM.out;have:=hr3.2.2;omega
    ·have h15:X.getD 15 0<32768:=by omega
     have BP:=Hid.mk (YU rst.dgs HX.out h15);have RN:=Hid.mk rst.num;have AL:=Hid.mk (Pc (w.heap.size+1) g cp X wr hdg HX.out rst.dgs h15);have ME:=Hid.mk (fun h=>TL rst.dgs HX.out h15 h);have XD:=Hid.mk rst.dgs;clear hx15 rst f15 f0 c0;generalize hx15e:X.getD 15 0=x15 at *;clear hx15e;go_wp2_with fail;refine AL.out.mono ?_;rintro e w' ⟨rfl,hw⟩;have hw:=hw.symm;subst hw;clear c15
     by_cases hp:P255≤val X
     ·have M:=Hid.mk (ME.out hp)
      have hm0:=Qz HX.out;have HYL:=Hid.mk (JD X 16);have HYD:=Hid.mk M.out.2
      have HYV:Hid (val (CW X 16)=n%P255):=Hid.mk (by
       rw[M.out.1,←RN.out];have:=BP.out;rw[←Int.sub_emod_right,AcN (by omega) (by unfold P255 at *;omega)])
      rw[←hm0] at hdg;clear hm0;simp only[hp,decide_true];go_wp2
      go_loopw [6] (fun i v=>∃k:Nat,k≤16∧i=.int .i64 k∧Dig v (w.heap.size+1) g cp (CW X k)∧v.heap[w.heap.size]?=some (.cells (BA 0) 22 (0,0))∧Below w.heap.size w v) (fun i _=>16-(intOf i).toNat)
      case atStart=>exact⟨0,by omega,rfl,hdg,gz,hB⟩
      case round =>
       clear hdg gz hB;obtain⟨k,hk,rfl,hdg,gz,hB⟩:=hrel
       by_cases hlt:k<16
       ·have MS:=Hid.mk (TJ X hlt)
        have cx:=hdg.cell k (by rw[JD];exact hlt);have fx:=hdg.free k;have hxr:=XD.out.at (by omega) k;rw[TI X hlt] at cx
        by_cases hk0:k=0
        ·subst hk0
         have hxr0:=hxr.1;have hxr1:=hxr.2;have MS:=Hid.mk MS.out;simp only[if_true] at MS;clear hxr;generalize X.getD 0 0=x at *;go_wp2
         go_roundw
         case rel=>exact⟨1,by omega,by go_num,by rw[←MS.out];exact hdg.set 0 _,(heap_setCell_other _ _ _ _ (by simp;omega)).trans gz,Below.setCell hB (by simp;omega) _⟩
         case measure=>simp[intOf]
        ·have MS2:Hid ((CW X k).set k 0=CW X (k+1)):=Hid.mk (by have:=MS.out;rwa [if_neg hk0] at this)
         clear MS hxr;generalize X.getD k 0=x at *;go_wp2
         go_roundw
         case rel=>exact⟨k+1,by omega,by go_num,by rw[←MS2.out];exact hdg.set k _,(heap_setCell_other _ _ _ _ (by simp;omega)).trans gz,Below.setCell hB (by simp;omega) _⟩
         case measure=>simp[intOf];omega
       ·have hk2:k=16:=by omega
        subst hk2;clear hlt;go_wp2;refine AJ (fun v=>Dig v (w.heap.size+1) g cp (CW X 16)∧v.heap[w.heap.size]?=some (.cells (BA 0) 22 (0,0))∧v.heap[wr.heap.size]?=some (.cells (BA (val ((CW X 16).take 0))) 22 (0,0))∧Below w.heap.size w v)
         ⟨hdg.alloc _,(Below.heap_alloc _ _ _ (Aa gz)).trans gz,heap_alloc_new _ _,hB.alloc hB.size _⟩ ?_
        have hs0:=Aa gz;have hs1:=hdg.lt;generalize wr.heap.size=bo at *;clear hdg gz hB;rintro v5 ⟨hdg,gz,go,hB⟩
        go_loopw [8] (fun i v=>∃k:Nat,k≤16∧i=.int .i64 k∧Dig v (w.heap.size+1) g cp (CW X 16)∧v.heap[w.heap.size]?=some (.cells (BA 0) 22 (0,0))∧v.heap[bo]?=some (.cells (BA (val ((CW X 16).take k))) 22 (0,0))∧Below w.heap.size w v) (fun i _=>16-(intOf i).toNat)
        case atStart=>exact⟨0,by omega,rfl,hdg,gz,go,hB⟩
        case round =>
         clear hdg gz go hB;obtain⟨k,hk,rfl,hdg,gz,go,hB⟩:=hrel
         by_cases hlt:k<16
         ·have cx:=hdg.cell k (by have:=HYL.out;omega)
          have hx:=HYD.out.at (by omega) k;have hx0:=hx.1;have hx1:=hx.2;clear hx;have BS:=Hid.mk (Lz HYD.out HYL.out hlt);generalize val ((CW X 16).take k)=V0 at *;generalize (CW X 16).getD k 0=x at *;have c0:=(cell_of_row wr _ (2*k) _ _ _ go).trans (BH _ (2*k) (by omega));have c1:=(cell_of_row wr _ (2*k+1) _ _ _ go).trans (BH _ (2*k+1) (by omega));have f0:=frozen_of_row wr _ (2*k) _ _ go;have f1:=frozen_of_row wr _ (2*k+1) _ _ go;have hne:¬g=bo:=by omega
          go_wp2
          go_roundw
          case rel=>exact⟨k+1,by omega,by go_num,(hdg.setOther _ (by omega)).setOther _ (by omega),(heap_setCell_other _ _ _ _ (by simp;omega)).trans ((heap_setCell_other _ _ _ _ (by simp;omega)).trans gz),by rw[←BS.out];exact heap_setCell_same _ _ _ _ _ _ (heap_setCell_same _ _ _ _ _ _ go),Below.setCell (Below.setCell hB (by simp;omega) _) (by simp;omega) _⟩
          case measure=>simp[intOf];omega
         ·have hk2:k=16:=by omega
          subst hk2;rw[AcD (by have:=HYL.out;omega),HYV.out] at go
          go_wp2_with (first|(refine A7 rfl _ rfl _ _ rfl go (Ah _) ?_)|(refine BF rfl _ _ rfl _ _ rfl rfl _ gz (Ah _) ?_;intro v6 g6 o6))
          exact bodyPost_ret (v:=.agg (BA (n%P255))) (results_cell_row rfl _ _ _ _ _ _ _ rfl g6 underlying22 rfl (by rw[Ah];exact Bo)) rfl
           ⟨rfl,Below.trans hB (Only.below (b:=w.heap.size) (B:=w.heap.size) o6 (by omega))⟩
     ·have HYL:=HX
      have HYD:=XD
      have HYV:Hid (val X=n%P255):=Hid.mk (by
       rw[←RN.out];have:=XD.out.nonneg;rw[AcN (by omega) (by omega)])
      simp only[hp,decide_false];go_wp2;refine AJ (fun v=>Dig v (w.heap.size+1) g cp X∧v.heap[w.heap.size]?=some (.cells (BA 0) 22 (0,0))∧v.heap[wr.heap.size]?=some (.cells (BA (val (X.take 0))) 22 (0,0))∧Below w.heap.size w v)
       ⟨hdg.alloc _,(Below.heap_alloc _ _ _ (Aa gz)).trans gz,heap_alloc_new _ _,hB.alloc hB.size _⟩ ?_
      have hs0:=Aa gz;have hs1:=hdg.lt;generalize wr.heap.size=bo at *;clear hdg gz hB;rintro v5 ⟨hdg,gz,go,hB⟩
      go_loopw [8] (fun i v=>∃k:Nat,k≤16∧i=.int .i64 k∧Dig v (w.heap.size+1) g cp X∧v.heap[w.heap.size]?=some (.cells (BA 0) 22 (0,0))∧v.heap[bo]?=some (.cells (BA (val (X.take k))) 22 (0,0))∧Below w.heap.size w v) (fun i _=>16-(intOf i).toNat)
      case atStart=>exact⟨0,by omega,rfl,hdg,gz,go,hB⟩
      case round =>
       clear hdg gz go hB;obtain⟨k,hk,rfl,hdg,gz,go,hB⟩:=hrel
       by_cases hlt:k<16
       ·have cx:=hdg.cell k (by have:=HYL.out;omega)
        have hx:=HYD.out.at (by omega) k;have hx0:=hx.1;have hx1:=hx.2;clear hx;have BS:=Hid.mk (Lz HYD.out HYL.out hlt);generalize val (X.take k)=V0 at *;generalize X.getD k 0=x at *;have c0:=(cell_of_row wr _ (2*k) _ _ _ go).trans (BH _ (2*k) (by omega));have c1:=(cell_of_row wr _ (2*k+1) _ _ _ go).trans (BH _ (2*k+1) (by omega));have f0:=frozen_of_row wr _ (2*k) _ _ go;have f1:=frozen_of_row wr _ (2*k+1) _ _ go;have hne:¬g=bo:=by omega
        go_wp2
        go_roundw
        case rel=>exact⟨k+1,by omega,by go_num,(hdg.setOther _ (by omega)).setOther _ (by omega),(heap_setCell_other _ _ _ _ (by simp;omega)).trans ((heap_setCell_other _ _ _ _ (by simp;omega)).trans gz),by rw[←BS.out];exact heap_setCell_same _ _ _ _ _ _ (heap_setCell_same _ _ _ _ _ _ go),Below.setCell (Below.setCell hB (by simp;omega) _) (by simp;omega) _⟩
        case measure=>simp[intOf];omega
       ·have hk2:k=16:=by omega
        subst hk2;rw[AcD (by have:=HYL.out;omega),HYV.out] at go
        go_wp2_with (first|(refine A7 rfl _ rfl _ _ rfl go (Ah _) ?_)|(refine BF rfl _ _ rfl _ _ rfl rfl _ gz (Ah _) ?_;intro v6 g6 o6))
        exact bodyPost_ret (v:=.agg (BA (n%P255))) (results_cell_row rfl _ _ _ _ _ _ _ rfl g6 underlying22 rfl (by rw[Ah];exact Bo)) rfl
         ⟨rfl,Below.trans hB (Only.below (b:=w.heap.size) (B:=w.heap.size) o6 (by omega))⟩
theorem IM{m:Nat}{B g cap:Nat}{ds:List Int}{w:World}(hl:ds.length=m)(hm:m≤40)(hD:Dig w B g cap ds)(hd:Dgs 4398046511104 ds):Calls prog 153 #[.slice (some ⟨g,0,none⟩) m cap] w fun e w'=>e=.returned (.agg (BA (val ds%P255)))∧Below w.heap.size w w':=by
 have:=WD B g cap ds w hD hd (by omega) (Aax hd (by omega))
 rwa [hl] at this
theorem YZ(n:Int)(i:Nat):Dgs 4398046511104 (LD n i):=(Fq n i).mono (by omega)
theorem L1(a:Int)(w:World)(ha:N256 a):Calls prog 124 #[.agg (BA a)] w fun e w'=>e=.returned (.agg (BA (a%P255)))∧Below w.heap.size w w':=by
 have HV:=Hid.mk (Ir ha.1 ha.2);clear ha;go_enter func124,ntmps124
 go_wp2_with (refine A7 rfl _ rfl _ _ rfl (heap_alloc2_old w _ _) (Ah _) ?_)
 refine(ES a _).mono ?_;rintro e v1 ⟨g,rfl,hd,hb1⟩;have gz:=Aj hb1 (heap_alloc2_new w _ _) (by simp);have hB:=Below.trans (((Below.refl _ w).alloc (Acg _) _).alloc (by simp) _) (hb1.mono (by simp;omega));clear hb1;go_wp2_with fail;refine(IM (Do a 16) (by omega) hd (YZ a 16)).mono ?_;rintro e v2 ⟨rfl,hb2⟩;rw[HV.out];have gz2:=Aj hb2 gz (Aa gz);have hB2:=Below.trans hB (hb2.mono hB.size)
 go_wp2_with (refine BF rfl _ _ rfl _ _ rfl rfl _ gz2 (Ah 0) ?_;intro v3 g3 o3)
 exact bodyPost_ret (v:=.agg (BA (a%P255))) (results_cell_row rfl _ _ _ _ _ _ _ rfl g3 underlying22 rfl (by rw[Ah];exact Bo)) rfl
  ⟨rfl,Below.trans hB2 (Only.below (b:=w.heap.size+1) (B:=w.heap.size) o3 (by omega))⟩
theorem Hk(a b:Int)(w:World)(ha:N256 a)(hb:N256 b):Calls prog 156 #[.agg (BA a),.agg (BA b)] w fun e w'=>e=.returned (.agg (BA ((a+b)%P255)))∧Below w.heap.size w w':=by
 have HVA:=Hid.mk (Ir ha.1 ha.2);have HVB:=Hid.mk (Ir hb.1 hb.2);clear ha hb;go_enter func156,ntmps156
 go_wp2_with (refine A7 rfl _ rfl _ _ rfl (A6 w _ _ _) (Ah _) ?_)
 refine(ES a _).mono ?_;rintro e v1 ⟨g1,rfl,hd1,hb1⟩;have gb:=Aj hb1 (AB w _ _ _) (by simp<;>omega);have gz:=Aj hb1 (AK w _ _ _) (by simp<;>omega)
 have hB:Below w.heap.size w v1:=by
  refine Below.trans ?_ (hb1.mono (by simp<;>omega))
  repeat first | exact Below.refl _ _ | refine Below.alloc ?_ (by simp<;>omega) _
 have hd1:=hd1.any (C:=w.heap.size+1+1+1) (by have:=hd1.raw.1;simp at this;omega);clear hb1;have hdl:=hd1.lt
 go_wp2_with (refine A7 rfl _ rfl _ _ rfl gb (Ah _) ?_)
 refine(ES b _).mono ?_;rintro e v2 ⟨g2,rfl,hd2,hb2⟩;have hd1:=hd1.below hb2 hd1.lt;have gz:=Aj hb2 gz (Aa gz);have hne:g1≠g2:=by have:=hd1.raw.1;have:=hd2.raw.1;have:=hb2.size;have h:=hdl;omega
 have hB:=Below.trans hB (hb2.mono hB.size);have hd2:=hd2.any (C:=w.heap.size+1+1+1) (by have:=hd1.raw.1;have:=hd2.raw.1;omega);clear hb2 hdl gb;have s0:=Sum.start (Y:=LD b 16) (Fq a 16) (Do a 16);go_wp2
 go_loopw [7] (fun i v=>∃(k:Nat) (ds:List Int),k≤16∧i=.int .i64 k∧Sum (LD a 16) (LD b 16) k ds∧Dig v (w.heap.size+1+1+1) g1 16 ds∧Dig v (w.heap.size+1+1+1) g2 16 (LD b 16)∧v.heap[w.heap.size+1+1]?=some (.cells (BA 0) 22 (0,0))∧Below w.heap.size w v) (fun i _=>16-(intOf i).toNat)
 case atStart=>exact⟨0,_,by omega,rfl,s0,hd1,hd2,gz,hB⟩
 case round =>
  clear s0 hd1 hd2 gz hB;obtain⟨k,ds,hk,rfl,sm,hd1,hd2,gz,hB⟩:=hrel;have hg1:=hd1.raw.1
  by_cases hlt:k<16
  ·have SS:=Hid.mk (sm.step (Fq b 16) (Do b 16) hlt)
   have cx:=hd1.cell k (by have:=sm.len;omega);have fx:=hd1.free k;have cy:=hd2.cell k (by rw[Do];exact hlt);have hx:=sm.lo k;have hy:=(Fq b 16).at (by omega) k;have hx0:=hx.1;have hx1:=hx.2;have hy0:=hy.1;have hy1:=hy.2;clear hx hy sm;generalize ds.getD k 0=x at *;generalize (LD b 16).getD k 0=y at *;go_wp2
   go_region
   go_wp2
   go_roundw
   case rel=>exact⟨k+1,_,by omega,by go_num,SS.out,(hd1.set k _).drewN 1,(hd2.setOther _ (Ne.symm hne)).drewN 1,(heap_setCell_other _ _ _ _ (by simp;omega)).trans gz,Below.drew (Below.setCell hB (by simp;omega) _)⟩
   case measure=>simp[intOf];omega
  ·have hk2:k=16:=by omega
   subst hk2;have dn:=sm.done (Do b 16);have NUM:Hid (val ds=a+b):=Hid.mk (by rw[dn.1,HVA.out,HVB.out]);have DG:=Hid.mk dn.2;clear dn hlt;go_wp2_with fail;refine(IM sm.len (by omega) hd1 DG.out).mono ?_;rintro e v5 ⟨rfl,hb5⟩;rw[NUM.out];have gz5:=Aj hb5 gz (Aa gz);have hB5:=Below.trans hB (hb5.mono hB.size)
   go_wp2_with (refine BF rfl _ _ rfl _ _ rfl rfl _ gz5 (Ah 0) ?_;intro v6 g6 o6)
   exact bodyPost_ret (v:=.agg (BA ((a+b)%P255))) (results_cell_row rfl _ _ _ _ _ _ _ rfl g6 underlying22 rfl (by rw[Ah];exact Bo)) rfl
    ⟨rfl,Below.trans hB5 (Only.below (b:=w.heap.size+1+1) (B:=w.heap.size) o6 (by omega))⟩
theorem Aca(w:World):(Instr.makeSlice 171 (.int .i64 31) (.int .i64 31)).run prog w=.ok (.slice (some ⟨w.heap.size,0,none⟩) 31 31) (w.alloc (.cells (madeCells #[.int .i64 0] 31) 3)):=
 run_make_row' 171 3 (.int .i64 0) 8 underlying171 B1 rfl .i64 .i64 31 (by omega) (by omega) w
theorem Cw(a b:Int)(w:World)(ha:N256 a)(hb:N256 b):Calls prog 126 #[.agg (BA a),.agg (BA b)] w fun e w'=>e=.returned (.agg (BA (a*b%P255)))∧Below w.heap.size w w':=by
 have hmk:=Aca;have HVA:=Hid.mk (Ir ha.1 ha.2);have HVB:=Hid.mk (Ir hb.1 hb.2);clear ha hb;go_enter func126,ntmps126
 go_wp2_with (refine A7 rfl _ rfl _ _ rfl (A6 w _ _ _) (Ah _) ?_)
 refine(ES a _).mono ?_;rintro e v1 ⟨g1,rfl,hd1,hb1⟩;have gb:=Aj hb1 (AB w _ _ _) (by simp<;>omega);have gz:=Aj hb1 (AK w _ _ _) (by simp<;>omega)
 have hB:Below w.heap.size w v1:=by
  refine Below.trans ?_ (hb1.mono (by simp<;>omega))
  repeat first | exact Below.refl _ _ | refine Below.alloc ?_ (by simp<;>omega) _
 have hd1:=hd1.any (C:=w.heap.size+1+1+1) (by have:=hd1.raw.1;simp at this;omega);clear hb1;have hdl:=hd1.lt
 go_wp2_with (refine A7 rfl _ rfl _ _ rfl gb (Ah _) ?_)
 refine(ES b _).mono ?_;rintro e v2 ⟨g2,rfl,hd2,hb2⟩;have hd1:=hd1.below hb2 hd1.lt;have gz:=Aj hb2 gz (Aa gz);have hne:g1≠g2:=by have:=hd1.raw.1;have:=hd2.raw.1;have:=hb2.size;have h:=hdl;omega
 have hB:=Below.trans hB (hb2.mono hB.size);have hd2:=hd2.any (C:=w.heap.size+1+1+1) (by have:=hd1.raw.1;have:=hd2.raw.1;omega);clear hb2 hdl gb;have p0:=Prd.start (LD a 16) (LD b 16);go_wp2;refine AJ (fun v=>Dig v (w.heap.size+1+1+1) g1 16 (LD a 16)∧Dig v (w.heap.size+1+1+1) g2 16 (LD b 16)∧Dig v (w.heap.size+1+1+1) v2.heap.size 31 (List.replicate 31 0)∧v.heap[w.heap.size+1+1]?=some (.cells (BA 0) 22 (0,0))∧Below w.heap.size w v)
  ⟨hd1.alloc _,hd2.alloc _,(Pb v2 31 (by omega)).any (by have:=Aa gz;omega),(Below.heap_alloc _ _ _ (Aa gz)).trans gz,hB.alloc hB.size _⟩ ?_
 have hn1:=hd1.lt;have hn2:=hd2.lt;have hn3:=Aa gz;clear hd1 hd2 gz hB;generalize v2.heap.size=g3 at *;rintro v3 ⟨hd1,hd2,hd3,gz,hB⟩
 go_loopw [8] (fun i v=>∃(k:Nat) (ds:List Int),k≤16∧i=.int .i64 k∧Prd (LD a 16) (LD b 16) k 0 ds∧Dig v (w.heap.size+1+1+1) g1 16 (LD a 16)∧Dig v (w.heap.size+1+1+1) g2 16 (LD b 16)∧Dig v (w.heap.size+1+1+1) g3 31 ds∧v.heap[w.heap.size+1+1]?=some (.cells (BA 0) 22 (0,0))∧Below w.heap.size w v) (fun i _=>16-(intOf i).toNat)
 case atStart=>exact⟨0,_,by omega,rfl,p0,hd1,hd2,hd3,gz,hB⟩
 case round =>
  clear p0 hd1 hd2 hd3 gz hB;obtain⟨k,ds,hk,rfl,pr,hd1,hd2,hd3,gz,hB⟩:=hrel;have hg3:=hd3.raw.1
  by_cases hlt:k<16
  ·go_wp2
   generalize Value.bool (decide ((k:Int)<16))=b16
   go_loopg [9] 16 (fun m i v=>∃(j:Nat) (ds:List Int),Hid (m+j=16)∧i=.int .i64 j∧Prd (LD a 16) (LD b 16) k j ds∧Dig v (w.heap.size+1+1+1) g1 16 (LD a 16)∧Dig v (w.heap.size+1+1+1) g2 16 (LD b 16)∧Dig v (w.heap.size+1+1+1) g3 31 ds∧v.heap[w.heap.size+1+1]?=some (.cells (BA 0) 22 (0,0))∧Below w.heap.size w v)
   case atStart=>exact⟨0,ds,Hid.mk rfl,rfl,pr,hd1,hd2,hd3,gz,hB⟩
   case round =>
    clear pr hd1 hd2 hd3 gz hB;obtain⟨j,ds,HJ,rfl,pr,hd1,hd2,hd3,gz,hB⟩:=hrel;have hj16:j≤16:=by have:=HJ.out;omega
    by_cases hj:j<16
    ·have PS:=Hid.mk (pr.step (Fq a 16) (Fq b 16) (Do b 16) hlt hj)
     have cx:=hd1.cell k (by rw[Do];exact hlt);have cy:=hd2.cell j (by rw[Do];exact hj);have cz:=hd3.cell (k+j) (by have:=pr.len;omega);have fz:=hd3.free (k+j);have hm:=Pa ((Fq a 16).at (by omega) k) ((Fq b 16).at (by omega) j);have hm0:=hm.1;have hm1:=hm.2;have hz:=pr.lo (k+j);have hz0:=hz.1;have hz1:ds.getD (k+j) 0≤73014444032:=by have:=hz.2;omega
     clear hm hz pr;generalize (LD a 16).getD k 0=x at *;generalize (LD b 16).getD j 0=y at *;generalize ds.getD (k+j) 0=z at *;go_wp2
     go_region
     go_wp2
     go_roundg (16-(j+1))
     case rel=>exact⟨j+1,_,Hid.mk (by omega),by go_num,PS.out,(hd1.setOther _ (by omega)).drewN 1,(hd2.setOther _ (by omega)).drewN 1,(hd3.set (k+j) _).drewN 1,(heap_setCell_other _ _ _ _ (by simp;omega)).trans gz,Below.drew (Below.setCell hB (by simp;omega) _)⟩
     case measure=>have:=HJ.out;omega
    ·have hj2:j=16:=by omega
     subst hj2;have PN:=Hid.mk (pr.next (Do b 16) (Do a 16) hlt);clear pr hj;go_wp2
     go_roundw
     case rel=>exact⟨k+1,ds,by omega,by go_num,PN.out,hd1,hd2,hd3,gz,hB⟩
     case measure=>simp[intOf];omega
  ·have hk2:k=16:=by omega
   subst hk2;have dn:=pr.done (Do a 16);have NUM:Hid (val ds=a*b):=Hid.mk (by rw[dn.1,HVA.out,HVB.out]);have DG:=Hid.mk dn.2;have LN:=Hid.mk pr.len;clear dn hlt pr;go_wp2_with fail;refine(IM LN.out (by omega) hd3 DG.out).mono ?_;rintro e v5 ⟨rfl,hb5⟩;rw[NUM.out];have gz5:=Aj hb5 gz (Aa gz);have hB5:=Below.trans hB (hb5.mono hB.size)
   go_wp2_with (refine BF rfl _ _ rfl _ _ rfl rfl _ gz5 (Ah 0) ?_;intro v6 g6 o6)
   exact bodyPost_ret (v:=.agg (BA ((a*b)%P255))) (results_cell_row rfl _ _ _ _ _ _ _ rfl g6 underlying22 rfl (by rw[Ah];exact Bo)) rfl
    ⟨rfl,Below.trans hB5 (Only.below (b:=w.heap.size+1+1) (B:=w.heap.size) o6 (by omega))⟩
theorem IO(a b:Int)(w:World)(ha:N256 a)(hb:N256 b):Calls prog 157 #[.agg (BA a),.agg (BA b)] w fun e w'=>e=.returned (.agg (BA ((a-b)%P255)))∧Below w.heap.size w w':=by
 have HVA:=Hid.mk (Ir ha.1 ha.2);have hcb:=N256.mod b;have HVB:=Hid.mk (Ir hcb.1 hcb.2);have HB:=Hid.mk hb;have HP:Hid (val (LD (b%P255) 16)<P255):=Hid.mk (by rw[HVB.out];exact(Ef b).2);clear ha hb hcb;go_enter func157,ntmps157
 go_wp2_with (refine A7 rfl _ rfl _ _ rfl (A6 w _ _ _) (Ah _) ?_)
 refine(ES a _).mono ?_;rintro e v1 ⟨g1,rfl,hd1,hb1⟩;have gb:=Aj hb1 (AB w _ _ _) (by simp<;>omega);have gz:=Aj hb1 (AK w _ _ _) (by simp<;>omega)
 have hB:Below w.heap.size w v1:=by
  refine Below.trans ?_ (hb1.mono (by simp<;>omega))
  repeat first | exact Below.refl _ _ | refine Below.alloc ?_ (by simp<;>omega) _
 have hd1:=hd1.any (C:=w.heap.size+1+1+1) (by have:=hd1.raw.1;simp at this;omega);clear hb1
 go_wp2_with (refine A7 rfl _ rfl _ _ rfl gb (Ah _) ?_)
 refine(L1 b _ HB.out).mono ?_;rintro e v2 ⟨rfl,hb2⟩;have hd1:=hd1.below hb2 hd1.lt;have gz:=Aj hb2 gz (Aa gz);have hB:=Below.trans hB (hb2.mono hB.size);clear hb2 gb;have hdl:=hd1.lt;go_wp2_with fail;refine(ES (b%P255) _).mono ?_;rintro e v3 ⟨g2,rfl,hd2,hb3⟩;have hd1:=hd1.below hb3 hd1.lt;have gz:=Aj hb3 gz (Aa gz);have hne:g1≠g2:=by have:=hd1.raw.1;have:=hd2.raw.1;have:=hb3.size;have h:=hdl;omega
 have hB:=Below.trans hB (hb3.mono hB.size);have hd2:=hd2.any (C:=w.heap.size+1+1+1) (by have:=hd1.raw.1;have:=hd2.raw.1;omega);clear hb3 hdl;rw[←WC (X:=LD a 16) (Y:=LD (b%P255) 16) (Do a 16)] at hd1;have XD:=Hid.mk (Fq a 16);have XL:=Hid.mk (Do a 16);have YD:=Hid.mk (Fq (b%P255) 16);have YL:=Hid.mk (Do (b%P255) 16);generalize LD a 16=X at *;generalize LD (b%P255) 16=Y at *;go_wp2
 go_loopw [7] (fun i v=>∃k:Nat,k≤16∧i=.int .i64 k∧Dig v (w.heap.size+1+1+1) g1 16 (Dif X Y k)∧Dig v (w.heap.size+1+1+1) g2 16 Y∧v.heap[w.heap.size+1+1]?=some (.cells (BA 0) 22 (0,0))∧Below w.heap.size w v) (fun i _=>16-(intOf i).toNat)
 case atStart=>exact⟨0,by omega,rfl,hd1,hd2,gz,hB⟩
 case round =>
  clear hd1 hd2 gz hB;obtain⟨k,hk,rfl,hd1,hd2,gz,hB⟩:=hrel;have hg1:=hd1.raw.1
  by_cases hlt:k<16
  ·have DS:=Hid.mk (YW X Y hlt)
   have cx:=hd1.cell k (by rw[RK];exact hlt);have fx:=hd1.free k;rw[YV X Y hlt] at cx;have cy:=hd2.cell k (by have:=YL.out;omega);have hx:=XD.out.at (by omega) k;have hy:=YD.out.at (by omega) k;have hx0:=hx.1;have hx1:=hx.2;have hy0:=hy.1;have hy1:=hy.2;clear hx hy
   rcases(show k=0∨k=15∨(k≠0∧k≠15) by omega) with hk0 | hk0 | ⟨hk0,hk15⟩
   ·subst hk0
    have DS:Hid ((Dif X Y 0).set 0 (X.getD 0 0+65517-Y.getD 0 0)=Dif X Y 1):=DS;generalize X.getD 0 0=x at *;generalize Y.getD 0 0=y at *;go_wp2
    go_region
    go_wp2
    go_roundw
    case rel=>exact⟨1,by omega,by go_num,by rw[←DS.out];exact(hd1.set 0 _).drewN 1,(hd2.setOther _ (Ne.symm hne)).drewN 1,(heap_setCell_other _ _ _ _ (by simp;omega)).trans gz,Below.drew (Below.setCell hB (by simp;omega) _)⟩
    case measure=>simp[intOf]
   ·subst hk0
    have DS:Hid ((Dif X Y 15).set 15 (X.getD 15 0+32767-Y.getD 15 0)=Dif X Y 16):=DS;generalize X.getD 15 0=x at *;generalize Y.getD 15 0=y at *;go_wp2
    go_region
    go_wp2
    go_roundw
    case rel=>exact⟨16,by omega,by go_num,by rw[←DS.out];exact(hd1.set 15 _).drewN 1,(hd2.setOther _ (Ne.symm hne)).drewN 1,(heap_setCell_other _ _ _ _ (by simp;omega)).trans gz,Below.drew (Below.setCell hB (by simp;omega) _)⟩
    case measure=>simp[intOf]
   ·have DS:Hid ((Dif X Y k).set k (X.getD k 0+65535-Y.getD k 0)=Dif X Y (k+1)):=Hid.mk (by have:=DS.out;unfold pd at this;rwa [if_neg hk15,if_neg hk0] at this)
    generalize X.getD k 0=x at *;generalize Y.getD k 0=y at *;go_wp2
    go_region
    go_wp2
    go_roundw
    case rel=>exact⟨k+1,by omega,by go_num,by rw[←DS.out];exact(hd1.set k _).drewN 1,(hd2.setOther _ (Ne.symm hne)).drewN 1,(heap_setCell_other _ _ _ _ (by simp;omega)).trans gz,Below.drew (Below.setCell hB (by simp;omega) _)⟩
    case measure=>simp[intOf];omega
  ·have hk2:k=16:=by omega
   subst hk2;have b0:=Bor.start XL.out YL.out;clear hlt hd2;go_wp2
   go_loopg [9] 15 (fun m i v=>∃(k:Nat) (t:Int) (ds:List Int),Hid (m+k=15)∧i=.int .i64 k∧Bor X Y k t ds∧Dig v (w.heap.size+1+1+1) g1 16 ds∧v.heap[w.heap.size+1+1]?=some (.cells (BA 0) 22 (0,0))∧Below w.heap.size w v)
   case atStart=>exact⟨0,0,_,Hid.mk rfl,rfl,b0,hd1,gz,hB⟩
   case round =>
    clear b0 hd1 gz hB;obtain⟨k,t,ds,HK,rfl,bo,hd1,gz,hB⟩:=hrel;have hk:k≤15:=by have:=HK.out;omega
    by_cases hlt:k<15
    ·have cx:=hd1.cell k (by have:=bo.len;omega)
     have cx1:=hd1.cell (k+1) (by have:=bo.len;omega);have fx:=hd1.free k;have fx1:=hd1.free (k+1)
     by_cases hneg:ds.getD k 0<0
     ·have BL:=Hid.mk (bo.lend XD.out YD.out hlt hneg)
      have hge:=BL.out.1
      have hr1:0≤ds.getD (k+1) 0+200000∧ds.getD (k+1) 0<200000:=by
       have h1:=bo.hi (k+1) (by omega) (by omega);have h2:=XD.out.at (by omega) (k+1);have h3:=YD.out.at (by omega) (k+1);have h4:pd (k+1)≤65535∧0≤pd (k+1):=by unfold pd;split<;>(try split)<;>omega
       omega
      have hr10:=hr1.1;have hr11:=hr1.2;clear hr1 bo;generalize ds.getD (k+1) 0=z at *;generalize ds.getD k 0=y at *;go_wp2;refine wp_loop_rounds 2 ?_;rw[rounds_succ];go_wp2;rw[rounds_succ];go_wp2
      go_roundg (15-(k+1))
      case rel=>exact⟨k+1,_,_,Hid.mk (by omega),by go_num,BL.out.2,(hd1.set k _).set (k+1) _,(heap_setCell_other _ _ _ _ (by simp;omega)).trans ((heap_setCell_other _ _ _ _ (by simp;omega)).trans gz),Below.setCell (Below.setCell hB (by simp;omega) _) (by simp;omega) _⟩
      case measure=>have:=HK.out;omega
     ·have BK:=Hid.mk (bo.keep XD.out YD.out hlt (by omega))
      clear bo;generalize ds.getD k 0=y at *;go_wp2;refine wp_loop_rounds 1 ?_;rw[rounds_succ];go_wp2
      go_roundg (15-(k+1))
      case rel=>exact⟨k+1,_,_,Hid.mk (by omega),by go_num,BK.out,hd1,gz,hB⟩
      case measure=>have:=HK.out;omega
    ·have hk2:k=15:=by omega
     subst hk2;have dn:=bo.done XD.out YD.out YL.out HP.out;have LN:=Hid.mk bo.len;have NUM:Hid (val ds=a+P255-b%P255):=Hid.mk (by rw[dn.1,HVA.out,HVB.out]);have DG:=Hid.mk dn.2;have RES:Hid ((a+P255-b%P255)%P255=(a-b)%P255):=Hid.mk (by rw[show a+P255-b%P255=(a-b%P255)+P255 by omega,Int.add_emod_right,Int.sub_emod a (b%P255),Int.emod_emod,←Int.sub_emod]);clear dn hlt bo;go_wp2_with fail;refine(IM LN.out (by omega) hd1 DG.out).mono ?_;rintro e v5 ⟨rfl,hb5⟩;rw[NUM.out,RES.out];have gz5:=Aj hb5 gz (Aa gz);have hB5:=Below.trans hB (hb5.mono hB.size)
     go_wp2_with (refine BF rfl _ _ rfl _ _ rfl rfl _ gz5 (Ah 0) ?_;intro v6 g6 o6)
     exact bodyPost_ret (v:=.agg (BA ((a-b)%P255))) (results_cell_row rfl _ _ _ _ _ _ _ rfl g6 underlying22 rfl (by rw[Ah];exact Bo)) rfl
      ⟨rfl,Below.trans hB5 (Only.below (b:=w.heap.size+1+1) (B:=w.heap.size) o6 (by omega))⟩
end Go.Proofs.YthghcjepdhkfdaaGreatDoor.Fld
namespace Go.Proofs.YthghcjepdhkfdaaGreatDoor.Fld
def AW(p:Nat):Prop:=2≤p∧∀d,d ∣ p→d=1∨d=p
theorem Dk:∀(m n:Nat),n≤m→2≤n→∃r,AW r∧r ∣ n
 | 0,n,h,h2=>by omega
 | m+1,n,h,h2=>by
  by_cases hp:∀d,d ∣ n→d=1∨d=n
  ·exact⟨n,⟨h2,hp⟩,Nat.dvd_refl n⟩
  ·have:∃d,d ∣ n∧d≠1∧d≠n:=by
    apply Classical.byContradiction;intro hn;apply hp;intro d hd
    by_cases h1:d=1
    ·exact Or.inl h1
    ·by_cases h3:d=n
     ·exact Or.inr h3
     ·exact absurd ⟨d,hd,h1,h3⟩ hn
   obtain⟨d,hd,h1,h3⟩:=this;have hle:=Nat.le_of_dvd (by omega) hd;have hpos:d≠0:=fun h0=>by subst h0;have:=Nat.eq_zero_of_zero_dvd hd;omega
   obtain⟨r,hr,hrd⟩:=Dk m d (by omega) (by omega);exact⟨r,hr,Nat.dvd_trans hrd hd⟩
theorem Hz{p a:Nat}(hp:AW p)(h:¬p ∣ a):Nat.Coprime p a:=by
 rcases hp.2 (Nat.gcd p a) (Nat.gcd_dvd_left p a) with h1 | h1
 ·exact h1
 ·exact absurd (h1▸Nat.gcd_dvd_right p a) h
theorem H4{p a b:Nat}(hp:AW p)(h:p ∣ a*b):p ∣ a∨p ∣ b:=by
 by_cases ha:p ∣ a
 ·exact Or.inl ha
 ·exact Or.inr (Nat.Coprime.dvd_of_dvd_mul_left (Hz hp ha) h)
def ch:Nat→Nat→Nat
 | _,0=>1
 | 0,_+1=>0
 | n+1,k+1=>ch n k+ch n (k+1)
theorem IP(n:Nat):ch n 0=1:=by cases n<;>rfl
theorem FW(n k:Nat):ch (n+1) (k+1)=ch n k+ch n (k+1):=rfl
theorem JE:∀(n k:Nat),n<k→ch n k=0
 | 0,0,h=>by omega
 | 0,k+1,_=>rfl
 | n+1,0,h=>by omega
 | n+1,k+1,h=>by rw[FW,JE n k (by omega),JE n (k+1) (by omega)]
theorem RM:∀n:Nat,ch n n=1
 | 0=>rfl
 | n+1=>by rw[FW,RM n,JE n (n+1) (by omega)]
theorem Hl:∀(n k:Nat),(k+1)*ch (n+1) (k+1)=(n+1)*ch n k
 | 0,0=>rfl
 | 0,k+1=>by rw[FW,JE 0 (k+1) (by omega),JE 0 (k+2) (by omega)];simp
 | n+1,0=>by
  have h1:=Hl n 0;rw[IP] at h1;rw[FW,IP];omega
 | n+1,k+1=>by
  have h1:=Hl n k;have h2:=Hl n (k+1);rw[FW (n+1) (k+1),Nat.mul_add,h2];have h3:(k+1+1)*ch (n+1) (k+1)=(n+1)*ch n k+ch (n+1) (k+1):=by rw[←h1,Nat.add_mul (k+1) 1,Nat.one_mul]
  rw[h3];have h4:(n+1+1)*ch (n+1) (k+1)=(n+1)*ch (n+1) (k+1)+ch (n+1) (k+1):=by rw[Nat.add_mul (n+1) 1,Nat.one_mul]
  rw[h4,FW n k,Nat.mul_add];omega
def ET(f:Nat→Nat):Nat→Nat
 | 0=>0
 | m+1=>ET f m+f m
theorem L3(x n:Nat):∀m,ET (fun k=>ch (n+1) k*x ^ k) (m+1)=ET (fun k=>ch n k*x ^ k) (m+1)+x*ET (fun k=>ch n k*x ^ k) m
 | 0=>by simp[ET,IP]
 | m+1=>by
  have ih:=L3 x n m;have e1:ET (fun k=>ch (n+1) k*x ^ k) (m+1+1)=ET (fun k=>ch (n+1) k*x ^ k) (m+1)+ch (n+1) (m+1)*x ^ (m+1):=rfl;have e2:ET (fun k=>ch n k*x ^ k) (m+1+1)=ET (fun k=>ch n k*x ^ k) (m+1)+ch n (m+1)*x ^ (m+1):=rfl;have e3:ET (fun k=>ch n k*x ^ k) (m+1)=ET (fun k=>ch n k*x ^ k) m+ch n m*x ^ m:=rfl;rw[e1,ih,e2,FW,Nat.add_mul]
  have e4:x*ET (fun k=>ch n k*x ^ k) (m+1)=x*ET (fun k=>ch n k*x ^ k) m+ch n m*x ^ (m+1):=by
   rw[e3,Nat.mul_add,Nat.pow_succ];have:x*(ch n m*x ^ m)=ch n m*(x ^ m*x):=by rw[Nat.mul_comm x,Nat.mul_assoc]
   rw[this]
  rw[e4];omega
theorem WE(x:Nat):∀n,ET (fun k=>ch n k*x ^ k) (n+1)=(x+1) ^ n
 | 0=>by simp[ET,IP]
 | n+1=>by
  rw[L3,WE x n];have e:ET (fun k=>ch n k*x ^ k) (n+1+1)=ET (fun k=>ch n k*x ^ k) (n+1)+ch n (n+1)*x ^ (n+1):=rfl;have e2:(x+1) ^ (n+1)=(x+1) ^ n*(x+1):=Nat.pow_succ (x+1) n;rw[e,JE n (n+1) (by omega),WE x n,Nat.zero_mul,Ac6,e2,Nat.mul_add,Nat.mul_one,Nat.mul_comm x];omega
theorem Ob{p k:Nat}(hp:AW p)(h0:0<k)(h1:k<p):p ∣ ch p k:=by
 obtain⟨n,rfl⟩:∃n,p=n+1:=⟨p-1,by have:=hp.1;omega⟩;obtain⟨j,rfl⟩:∃j,k=j+1:=⟨k-1,by omega⟩;have h:=Hl n j;have hd:n+1 ∣ (j+1)*ch (n+1) (j+1):=⟨ch n j,h⟩
 rcases H4 hp hd with h2 | h2
 ·have:=Nat.le_of_dvd (by omega) h2;omega
 ·exact h2
theorem RO{p:Nat}(hp:AW p)(x:Nat):∀m,m<p→ET (fun k=>ch p k*x ^ k) (m+1)%p=1%p
 | 0,_=>by simp[ET,IP]
 | m+1,h=>by
  have ih:=RO hp x m (by omega);have e:ET (fun k=>ch p k*x ^ k) (m+1+1)=ET (fun k=>ch p k*x ^ k) (m+1)+ch p (m+1)*x ^ (m+1):=rfl;have hz:ch p (m+1)*x ^ (m+1)%p=0:=Nat.mod_eq_zero_of_dvd (Nat.dvd_trans (Ob hp (by omega) h) (Nat.dvd_mul_right _ _));rw[e,Nat.add_mod,ih,hz,Ac6,Nat.mod_mod]
theorem WF{p:Nat}(hp:AW p)(x:Nat):(x+1) ^ p%p=(x ^ p+1)%p:=by
 obtain⟨n,rfl⟩:∃n,p=n+1:=⟨p-1,by have:=hp.1;omega⟩;have e:ET (fun k=>ch (n+1) k*x ^ k) (n+1+1)=ET (fun k=>ch (n+1) k*x ^ k) (n+1)+ch (n+1) (n+1)*x ^ (n+1):=rfl;rw[←WE,e,RM,Nat.one_mul,Nat.add_mod,RO hp x n (by omega),←Nat.add_mod,Nat.add_comm]
theorem RP{p:Nat}(hp:AW p):∀x,x ^ p%p=x%p
 | 0=>by have:=hp.1;rw[Nat.zero_pow (by omega)]
 | x+1=>by rw[WF hp,Nat.add_mod,RP hp x,←Nat.add_mod]
theorem IQ{p y:Nat}(hp:2≤p)(hy:1≤y)(h:p ∣ y-1):y%p=1:=by
 obtain⟨k,hk⟩:=h;have:y=1+p*k:=by omega
 rw[this,Nat.add_mul_mod_self_left,Nat.mod_eq_of_lt (by omega)]
theorem WG{p a:Nat}(hp:AW p)(h:¬p ∣ a):a ^ (p-1)%p=1:=by
 have h2:=hp.1;have ha:0<a:=Nat.pos_of_ne_zero (fun h0=>by subst h0;exact h (Nat.dvd_zero p));have hpos:1≤a ^ (p-1):=Nat.pow_pos ha;apply IQ h2 hpos;have h1:=RP hp a
 have e:a ^ p=a*a ^ (p-1):=by
  obtain⟨n,rfl⟩:∃n,p=n+1:=⟨p-1,by omega⟩;rw[Nat.pow_succ,Nat.mul_comm];rfl
 have hd:p ∣ a*(a ^ (p-1)-1):=by
  have h3:a*(a ^ (p-1)-1)=a ^ p-a:=by rw[Nat.mul_sub,Nat.mul_one,e]
  rw[h3];exact Nat.dvd_of_mod_eq_zero (Nat.sub_mod_eq_zero_of_mod_eq h1)
 rcases H4 hp hd with h4 | h4
 ·exact absurd h4 h
 ·exact h4
theorem Pd{b r m:Nat}(h:b ^ m%r=1%r)(k:Nat):b ^ (m*k)%r=1%r:=by
 rw[Nat.pow_mul,Nat.pow_mod,h,←Nat.pow_mod,Nat.one_pow]
theorem Zc{b r:Nat}(m n:Nat):b ^ m%r=1%r→b ^ n%r=1%r→b ^ Nat.gcd m n%r=1%r:=by
 induction m,n using Nat.gcd.induction with
 | H0 n=>intro _ h;simpa using h
 | H1 m n hm ih =>
  intro h1 h2;rw[Nat.gcd_rec];refine ih ?_ h1;have e:b ^ n=b ^ (m*(n/m))*b ^ (n%m):=by rw[←Nat.pow_add,Nat.div_add_mod]
  rw[e,Nat.mul_mod,Pd h1,←Nat.mul_mod,Nat.one_mul] at h2;exact h2
theorem L4{n q a r:Nat}(hn:2≤n)(hq:AW q)(hqn:q ∣ n-1)(h1:a ^ (n-1)%n=1)(hg:Nat.gcd (a ^ ((n-1)/q)%n+n-1) n=1)(hr:AW r)(hrn:r ∣ n):q ∣ r-1:=by
 have hr2:=hr.1;apply Classical.byContradiction;intro hnd;have hc:Nat.gcd q (r-1)=1:=Hz hq hnd
 have hb1:(a ^ ((n-1)/q)) ^ q%r=1%r:=by
  rw[←Nat.pow_mul,Nat.div_mul_cancel hqn];have h2:a ^ (n-1)%n%r=1%r:=by rw[h1]
  rwa [Nat.mod_mod_of_dvd _ hrn] at h2
 have hrb:¬r ∣ a ^ ((n-1)/q):=fun hd=>by
  have h3:r ∣ (a ^ ((n-1)/q)) ^ q:=by
   obtain⟨k,hk⟩:∃k,q=k+1:=⟨q-1,by have:=hq.1;omega⟩;rw[show (a ^ ((n-1)/q)) ^ q=(a ^ ((n-1)/q)) ^ (k+1) by rw[←hk],Nat.pow_succ];exact Nat.dvd_trans hd (Nat.dvd_mul_left _ _)
  rw[Nat.mod_eq_zero_of_dvd h3,Nat.mod_eq_of_lt (show 1<r by omega)] at hb1;omega
 have hb2:(a ^ ((n-1)/q)) ^ (r-1)%r=1%r:=by rw[WG hr hrb,Nat.mod_eq_of_lt (show 1<r by omega)]
 have hb3:=Zc q (r-1) hb1 hb2;rw[hc,Nat.pow_one,Nat.mod_eq_of_lt (show 1<r by omega)] at hb3
 have hd:r ∣ a ^ ((n-1)/q)%n+n-1:=by
  have h4:a ^ ((n-1)/q)%n%r=1:=by rw[Nat.mod_mod_of_dvd _ hrn];exact hb3
  obtain⟨k,hk⟩:=hrn;have h5:=Nat.div_add_mod (a ^ ((n-1)/q)%n) r;rw[h4] at h5;refine⟨a ^ ((n-1)/q)%n/r+k,?_⟩;rw[Nat.mul_add,←hk];omega
 have h6:r ∣ 1:=hg▸Nat.dvd_gcd hd hrn;have:=Nat.le_of_dvd (by omega) h6;omega
theorem IR{n F:Nat}(hn:2≤n)(hF:n<F*F)(h:∀r,AW r→r ∣ n→F ∣ r-1):AW n:=by
 have big:∀r,AW r→r ∣ n→F<r:=fun r hr hd=>by
  have h1:=Nat.le_of_dvd (by have:=hr.1;omega) (h r hr hd);have:=hr.1;omega
 obtain⟨r,hr,m,hm⟩:=Dk n n (Acg n) hn;have hrF:=big r hr ⟨m,hm⟩
 by_cases hm1:m=1
 ·rw[hm1,Nat.mul_one] at hm;rw[hm];exact hr
 ·exfalso
  have hm0:m≠0:=fun h0=>by rw[h0] at hm;omega
  obtain⟨s,hs,t,ht⟩:=Dk m m (Acg m) (by omega);have hsF:=big s hs ⟨r*t,by rw[hm,ht,Nat.mul_left_comm]⟩;have ht0:t≠0:=fun h0=>by rw[h0] at ht;omega
  have hsm:s≤m:=by rw[ht];exact Nat.le_mul_of_pos_right s (by omega)
  have h2:F*F≤r*m:=Nat.mul_le_mul (by omega) (by omega);omega
theorem Ab0{n q a:Nat}(hn:2≤n)(hq:AW q)(hqn:q ∣ n-1)(h1:a ^ (n-1)%n=1)(hg:Nat.gcd (a ^ ((n-1)/q)%n+n-1) n=1)(hF:n<q*q):AW n:=
 IR hn hF (fun _ hr hd=>L4 hn hq hqn h1 hg hr hd)
theorem Ab1{n q s a:Nat}(hn:2≤n)(hq:AW q)(hs:AW s)(hqs:Nat.gcd q s=1)(hqn:q ∣ n-1)(hsn:s ∣ n-1)(h1:a ^ (n-1)%n=1)(hg:Nat.gcd (a ^ ((n-1)/q)%n+n-1) n=1)(hg2:Nat.gcd (a ^ ((n-1)/s)%n+n-1) n=1)(hF:n<(q*s)*(q*s)):AW n:=
 IR hn hF (fun _ hr hd=>Nat.Coprime.mul_dvd_of_dvd_of_dvd hqs (L4 hn hq hqn h1 hg hr hd) (L4 hn hs hsn h1 hg2 hr hd))
def Is(m:Nat):Nat→Nat→Nat→Nat
 | 0,_,_=>1%m
 | f+1,a,n=>if n=0 then 1%m else if n%2=1 then a*Is m f (a*a%m) (n/2)%m else Is m f (a*a%m) (n/2)
theorem JF(m:Nat):∀(f a n:Nat),n<2 ^ f→Is m f a n=a ^ n%m
 | 0,a,n,h=>by simp at h;subst h;simp[Is]
 | f+1,a,n,h=>by
  have hf:n/2<2 ^ f:=by rw[Nat.pow_succ] at h;omega
  have ih:=JF m f (a*a%m) (n/2) hf;have e:(a*a%m) ^ (n/2)%m=a ^ (2*(n/2))%m:=by rw[←Nat.pow_mod,←Nat.pow_two,←Nat.pow_mul]
  unfold Is
  by_cases h0:n=0
  ·subst h0;simp
  ·rw[if_neg h0,ih,e]
   by_cases h1:n%2=1
   ·rw[if_pos h1,Nat.mul_mod_mod]
    congr 1;have hn:n=2*(n/2)+1:=by omega
    rw[show a ^ n=a ^ (2*(n/2)+1) by rw[←hn],Nat.pow_succ,Nat.mul_comm]
   ·rw[if_neg h1]
    congr 2;omega
theorem MW{n B:Nat}(hn:2≤n)(hB:n<B*B)(h:(Aco B).all (fun d=>decide (d<2) || n%d != 0)=true):AW n:=by
 obtain⟨r,hr,m,hm⟩:=Dk n n (Acg n) hn
 have key:∀d,2≤d→d ∣ n→B≤d:=fun d h2 hd=>by
  rcases Ac5 d B with hlt | hge
  ·have h1:=List.all_eq_true.1 h d (List.mem_range.2 hlt)
   rw[Nat.mod_eq_zero_of_dvd hd] at h1;simp at h1;omega
  ·exact hge
 by_cases hm1:m=1
 ·rw[hm1,Nat.mul_one] at hm;rw[hm];exact hr
 ·exfalso
  have hm0:m≠0:=fun h0=>by rw[h0] at hm;omega
  have h1:=key r hr.1 ⟨m,hm⟩;have h2:=key m (by omega) ⟨r,by rw[hm,Nat.mul_comm]⟩;have h3:B*B≤r*m:=Nat.mul_le_mul h1 h2;omega
theorem Ab2:AW 127:=MW (B:=12) (by omega) (by omega) (by decide +kernel)
theorem Ab3:AW 103:=MW (B:=11) (by omega) (by omega) (by decide +kernel)
theorem Ab4:AW 991:=MW (B:=32) (by omega) (by omega) (by decide +kernel)
theorem Aa0:AW 4153:=MW (B:=65) (by omega) (by omega) (by decide +kernel)
theorem WI:AW 430751:=MW (B:=657) (by omega) (by omega) (by decide +kernel)
theorem WJ:AW 569003:=MW (B:=755) (by omega) (by omega) (by decide +kernel)
def Pe(n q:Nat):Bool:=decide ((n-1)%q=0) && decide (Is n 260 2 (n-1)=1) && decide (Nat.gcd (Is n 260 2 ((n-1)/q)+n-1) n=1)
theorem It{n q:Nat}(hn:n<2 ^ 260)(h:Pe n q=true):q ∣ n-1∧2 ^ (n-1)%n=1∧Nat.gcd (2 ^ ((n-1)/q)%n+n-1) n=1:=by
 simp only[Pe,Acm,decide_eq_true_eq] at h;obtain⟨⟨h1,h2⟩,h3⟩:=h;rw[JF n 260 2 (n-1) (by omega)] at h2;rw[JF n 260 2 ((n-1)/q) (by have:=Nat.div_le_self (n-1) q;omega)] at h3;exact⟨Nat.dvd_of_mod_eq_zero h1,h2,h3⟩
theorem WK{n q:Nat}(hq:AW q)(hn:(decide (2≤n) && decide (n<2 ^ 260) && decide (n<q*q) && Pe n q)=true):AW n:=by
 simp only[Acm,decide_eq_true_eq] at hn;obtain⟨⟨⟨h2,h3⟩,h4⟩,h5⟩:=hn;obtain⟨a,b,c⟩:=It h3 h5;exact Ab0 h2 hq a b c h4
theorem Pf{n q s:Nat}(hq:AW q)(hs:AW s)(hn:(decide (2≤n) && decide (n<2 ^ 260) && decide (n<(q*s)*(q*s)) && decide (Nat.gcd q s=1) && Pe n q && Pe n s)=true):AW n:=by
 simp only[Acm,decide_eq_true_eq] at hn;obtain⟨⟨⟨⟨⟨h2,h3⟩,h4⟩,h5⟩,h6⟩,h7⟩:=hn;obtain⟨a,b,c⟩:=It h3 h6;obtain⟨a',_,c'⟩:=It h3 h7;exact Ab1 h2 hq hs h5 a a' b c c' h4
theorem TQ:AW 8574133:=Pf Ab4 Ab3 (by decide +kernel)
theorem prA:AW 1919519569386763:=Pf TQ Ab2 (by decide +kernel)
theorem prB:AW 2773320623:=WK WJ (by decide +kernel)
theorem prC:AW 72106336199:=WK prB (by decide +kernel)
theorem prD:AW 75445702479781427272750846543864801:=Pf prA prC (by decide +kernel)
theorem prE:AW 31757755568855353:=Pf WI Aa0 (by decide +kernel)
theorem prF:AW 74058212732561358302231226437062788676166966415465897661863160754340907:=Pf prD prE (by decide +kernel)
theorem prP:AW 57896044618658097711785492504343953926634992332820282019728792003956564819949:=WK prF (by decide +kernel)
end Go.Proofs.YthghcjepdhkfdaaGreatDoor.Fld
namespace Go.Proofs.YthghcjepdhkfdaaGreatDoor.Fld
open Go.RowKit Go.Proofs
open Tryz
theorem L5(a:Int)(n:Nat):(a%P255) ^ n%P255=a ^ n%P255:=by
 induction n with
 | zero=>simp
 | succ n ih=>rw[Acr,Acr,Int.mul_emod,ih,Int.emod_emod,←Int.mul_emod]
def Q0:Nat:=((-2:Int)%P255).toNat
theorem Pg:Q0+2=57896044618658097711785492504343953926634992332820282019728792003956564819949:=by decide +kernel
def EU(a:Int):Int:=a ^ Q0%P255
theorem Ph(a:Int):N256 (EU a):=N256.mod _
theorem TR{a:Int}(h:a%P255=0):EU a=0:=by
 unfold EU;rw[←L5,h];obtain⟨k,hk⟩:∃k,Q0=k+1:=⟨Q0-1,by have:=Pg;omega⟩;rw[hk,Acr,Int.mul_zero];rfl
theorem Pi(m n:Nat):((m:Int) ^ n)%P255=((m ^ n%57896044618658097711785492504343953926634992332820282019728792003956564819949:Nat):Int):=by
 rw[Int.natCast_emod,Int.natCast_pow];rfl
theorem Q3{a:Int}(h:a%P255≠0):a ^ (Q0+1)%P255=1:=by
 have hr:=Ef a;rw[←L5];obtain⟨m,hm⟩:∃m:Nat,a%P255=(m:Int):=⟨(a%P255).toNat,by omega⟩;rw[hm] at h hr ⊢
 have hnd:¬57896044618658097711785492504343953926634992332820282019728792003956564819949 ∣ m:=fun hd=>by
  have:=Nat.le_of_dvd (by omega) hd;unfold P255 at hr;omega
 have hf:=WG prP hnd;rw[show 57896044618658097711785492504343953926634992332820282019728792003956564819949-1=Q0+1 by have:=Pg;omega] at hf;rw[Pi,hf];rfl
theorem Zd{a:Int}(h:a%P255≠0):(a*EU a)%P255=1:=by
 have:=Q3 h;unfold EU;rw[Int.mul_emod,Int.emod_emod,←Int.mul_emod,Acy,←Acr];exact this
def Ab5(i:Nat):Nat:=[1].getD i 0
def Ab6(i:Nat):Bool:=i != 3
theorem Ze(a:Int)(w:World)(hP:PrimeAt w)(ha:N256 a):Calls prog 104 #[.agg (BA a)] w fun e w'=>e=.returned (.agg (BA (EU a)))∧Below w.heap.size w w':=by
 have hp0:=Cr hP;have HP:=Hid.mk hP;clear hP;go_enter func104,ntmps104;go_wp2
 refine AJ (fun v=>v.heap[w.heap.size]?=some (.cells (BA a) 22 (0,0)) ∧
  (∃z:Array Value,v.heap[w.heap.size+1]?=some (.cells z 22 (0,0))∧z.size=32)∧Below w.heap.size w v)
  ⟨heap_alloc2_old w _ _,⟨_,heap_alloc2_new w _ _,rfl⟩,by repeat first | exact Below.refl _ _ | refine Below.alloc ?_ (by simp<;>omega) _⟩ ?_
 rintro v0 ⟨ga,⟨z,gz,sz⟩,hB⟩;refine Ay (fun v=>v.heap[w.heap.size]?=some (.cells (BA a) 22 (0,0)))
  Ab5 Ab6 [0,1,2,3] rfl (by kernel_rfl) (fun _ _ d _ _ h=>by cases d<;>exact h) ga (fun HS=>?_)
 apply AN rfl rfl rfl HS
 focus exact fun v h=>Bj rfl _ _ rfl (Ah _) h
 simp only[Act.put,Aci,Acj,Ach];clear HS ga;refine Az rfl rfl rfl ?_;intro K hK
 go_simp
 refine(JA (-2) _ (CN HP.out (Below.drew hB) hp0) (by omega) (by omega)).mono ?_;rintro e v1 ⟨rfl,hb⟩;have gz:=Aj hb gz (Aa gz);have hB:=Below.trans (Below.drew hB) (hb.mono hB.size);refine hK _ _ (fun _ h=>Aj hb h (Aa h)) ?_;clear hK K hb;have NE:=N256.mod (-2);refine Az rfl rfl rfl ?_;intro K hK
 go_simp
 refine(YO a _ _ ha.1 ha.2 NE.1 NE.2).mono ?_;rintro e v2 ⟨rfl,hb⟩;have gz:=Aj hb gz (Aa gz);have hB:=Below.trans hB (hb.mono hB.size);refine hK _ _ (fun _ h=>Aj hb h (Aa h)) ?_;clear hK K hb;refine Az rfl rfl rfl ?_;intro K hK;refine E7 _ _ rfl _ _ rfl rfl _ gz sz ?_;intro v7 g7 o7;refine hK _ _ (fun h=>by cases h) ?_;clear hK K;refine Bf ?_;go_wp2;exact bodyPost_ret (v:=.agg (BA (EU a))) (results_cell_row rfl _ _ _ _ _ _ _ rfl g7 underlying22 rfl (by rw[Ah];exact Bo)) rfl
  ⟨rfl,Below.trans hB (Only.below (b:=w.heap.size+1) (B:=w.heap.size) o7 (by omega))⟩
theorem TS(k:Nat)(hk:k<32):(BA (256 ^ k-1)).setIfInBounds k (.int .u8 255)=BA (256 ^ (k+1)-1):=by
 have hp:(0:Int)<256 ^ k:=Int.pow_pos (by decide);rw[Qw (by omega) (by omega) (by unfold BR;omega) hk];congr 1;rw[Acr];omega
theorem WL:((BA (256 ^ 32-1)).setIfInBounds 0 (.int .u8 235)).setIfInBounds 31 (.int .u8 127)=BA (P255-2):=by kernel_rfl
theorem WM(w:World):Calls prog 160 #[] w fun e w'=>e=.returned (.agg (BA (P255-2)))∧Below w.heap.size w w':=by
 go_enter func160,ntmps160;go_wp2;refine AJ (fun v=>v.heap[w.heap.size]?=some (.cells (BA 0) 22 (0,0))∧v.heap[w.heap.size+1]?=some (.cells (BA 0) 22 (0,0))∧Below w.heap.size w v)
  ⟨heap_alloc2_old w _ _,heap_alloc2_new w _ _,by repeat first | exact Below.refl _ _ | refine Below.alloc ?_ (by simp<;>omega) _⟩ ?_
 rintro v0 ⟨gz,ge,hB⟩
 go_loopw [2] (fun i v=>∃k:Nat,k≤32∧i=.int .i64 k∧v.heap[w.heap.size]?=some (.cells (BA 0) 22 (0,0))∧v.heap[w.heap.size+1]?=some (.cells (BA (256 ^ k-1)) 22 (0,0))∧Below w.heap.size w v) (fun i _=>32-(intOf i).toNat)
 case atStart=>exact⟨0,by omega,rfl,gz,ge,hB⟩
 case round =>
  clear gz ge hB;obtain⟨k,hk,rfl,gz,ge,hB⟩:=hrel
  by_cases hlt:k<32
  ·have cs:=(cell_of_row wr _ k _ _ _ ge).trans (BH _ k hlt)
   have fs:=frozen_of_row wr _ k _ _ ge;go_wp2
   exact⟨⟨k+1,by omega,by go_num,(heap_setCell_other _ _ _ _ (by simp<;>omega)).trans gz,by rw[←TS k hlt];exact heap_setCell_same _ _ _ _ _ _ ge,
    Below.setCell hB (by simp) _⟩,by simp[intOf];omega⟩
  ·have hk2:k=32:=by omega
   subst hk2;have cs:=(cell_of_row wr _ 0 _ _ _ ge).trans (BH _ 0 (by omega));have fs:=frozen_of_row wr _ 0 _ _ ge;have cs2:=(cell_of_row wr _ 31 _ _ _ ge).trans (BH _ 31 (by omega));have fs2:=frozen_of_row wr _ 31 _ _ ge
   go_wp2_with (first|(refine A7 rfl _ rfl _ _ rfl (heap_setCell_same _ _ _ _ _ _ (heap_setCell_same _ _ _ _ _ _ ge)) (by simp[Ah]) ?_;rw[WL])|(refine BF rfl _ _ rfl _ _ rfl rfl _ ((heap_setCell_other _ _ _ _ (by simp)).trans ((heap_setCell_other _ _ _ _ (by simp)).trans gz)) (Ah _) ?_;intro v3 g3 o3))
   exact bodyPost_ret (v:=.agg (BA (P255-2))) (results_cell_row rfl _ _ _ _ _ _ _ rfl g3 underlying22 rfl (by rw[Ah];exact Bo)) rfl
    ⟨rfl,Below.trans (Below.setCell (Below.setCell hB (by simp) _) (by simp) _) (Only.below (b:=w.heap.size) (B:=w.heap.size) o3 (by omega))⟩
theorem L6(w:World)(A B C D:Obj):((((w.alloc A).alloc B).alloc C).alloc D).heap[w.heap.size+1+1+1]?=some D:=by
 have h:=heap_alloc_new (((w.alloc A).alloc B).alloc C) D;have e:(((w.alloc A).alloc B).alloc C).heap.size=w.heap.size+1+1+1:=by simp
 rwa [e] at h
theorem AZ{ops:Array Oper}{rest:List Oper}{d:Option Tmp}{x y:Operand}{t:TypeId}{ps:String}{af:Array Edge}{a:Act}{w:World}{Q:Exit→Act→World→Prop}{g:Nat}{n:Int}{old:Array Value}(hx:a.eval x=.pointer (some ⟨g,0,none⟩))(hy:a.eval y=.agg (BA n))(hg:w.heap[g]?=some (.cells old 22 (0,0)))(hold:old.size=32)(h:∀w2,w2.heap[g]?=some (.cells (BA n) 22 (0,0))→Only g w w2→wpList prog ops Q rest (a.put d undef) w2):wpList prog ops Q ({ dst:=d,op:=.store 22 x y,type:=t,pos:=ps,after:=af,guard:=none }::rest) a w:=
 BF rfl x y rfl g n hx hy old hg hold h
theorem Q5{a e:Int}(h1:e<Bm):a ^ Cs e 0%P255=1:=by
 unfold Cs;have:e.toNat/2 ^ 256=0:=Nat.div_eq_of_lt (by unfold Bm at h1;omega);rw[show 256-0=256 from rfl,this,Int.pow_zero];decide +kernel
theorem Zf(a:Int)(t:Nat):(a ^ t%P255)*(a ^ t%P255)%P255=a ^ (2*t)%P255:=by
 rw[←Int.mul_emod,←Ac2,Nat.two_mul]
theorem WN(a:Int)(t:Nat):a ^ (2*t)%P255*a%P255=a ^ (2*t+1)%P255:=by
 rw[Acr,Int.mul_emod,Int.emod_emod,←Int.mul_emod]
theorem TU(a e:Int):a ^ Cs e 256%P255=a ^ e.toNat%P255:=by simp[Cs]
theorem WO(a e:Int)(w:World)(ha:N256 a)(he:N256 e):Calls prog 159 #[.agg (BA a),.agg (BA e)] w fun r w'=>r=.returned (.agg (BA (a ^ e.toNat%P255)))∧Below w.heap.size w w':=by
 have HA:=Hid.mk ha;have HE:=Hid.mk he;clear ha he;go_enter func159,ntmps159
 go_wp2_with (first|(refine Ae rfl (Iq 0 1 rfl 1 (Wx _)) ?_)|(refine AZ (n:=1) (by rfl) (by rfl) (L6 w _ _ _ _) (by rfl) ?_;intro v1 g1 o1))
 have ga:=(o1.block _ (by omega)).trans ((Below.heap_alloc _ _ _ (by simp<;>omega)).trans (A6 w _ _ _));have ge:=(o1.block _ (by omega)).trans ((Below.heap_alloc _ _ _ (by simp<;>omega)).trans (AB w _ _ _));have gz:=(o1.block _ (by omega)).trans ((Below.heap_alloc _ _ _ (by simp<;>omega)).trans (AK w _ _ _))
 have hB:Below w.heap.size w v1:=by
  refine Below.trans ?_ (Only.below (b:=w.heap.size+1+1+1) (B:=w.heap.size) o1 (by omega))
  repeat first | exact Below.refl _ _ | refine Below.alloc ?_ (by simp<;>omega) _
 clear o1
 go_loopg [6] 256 (fun m i v=>∃k:Nat,Hid (m+k=256)∧i=.int .i64 (255-(k:Int))∧v.heap[w.heap.size]?=some (.cells (BA a) 22 (0,0))∧v.heap[w.heap.size+1]?=some (.cells (BA e) 22 (0,0))∧v.heap[w.heap.size+1+1]?=some (.cells (BA 0) 22 (0,0)) ∧
  v.heap[w.heap.size+1+1+1]?=some (.cells (BA (a ^ Cs e k%P255)) 22 (0,0))∧Below w.heap.size w v)
 case atStart=>exact⟨0,Hid.mk rfl,rfl,ga,ge,gz,by rw[Q5 HE.out.2];exact g1,hB⟩
 case round =>
  clear g1 ga ge gz hB;obtain⟨k,HK,rfl,ga,ge,gz,go,hB⟩:=hrel;have hk:k≤256:=by have:=HK.out;omega
  by_cases hlt:k<256
  ·have hbit:=IK e k hlt HE.out.1
   have SQ:=Hid.mk (Zf a (Cs e k));have OD:=Hid.mk (WN a (Cs e k));cases hbv:(bits BinOp.and IntKind.u8 (byt e ((255-k)/8)/2 ^ ((255-k)%8)) 1==1)
   all_goals
    simp only[hbv,Bool.false_eq_true,if_false,if_true,Ac6] at hbit;have HBIT:=Hid.mk hbit;clear hbit;generalize hn1:Cs e (k+1)=t1 at *;generalize hn0:Cs e k=t0 at *;have HN1:=Hid.mk hn1;clear hn1 hn0
    go_wp2_with (refine A7 rfl _ rfl _ _ rfl go (Ah _) ?_)
    refine(Cw _ _ _ (N256.mod _) (N256.mod _)).mono ?_;rintro r v2 ⟨rfl,hb2⟩;rw[SQ.out];have ga2:=Aj hb2 ga (Aa ga);have ge2:=Aj hb2 ge (Aa ge);have gz2:=Aj hb2 gz (Aa gz);have go2:=Aj hb2 go (Aa go);have hB2:=Below.trans hB (hb2.mono hB.size);clear hb2 ga ge gz go hB
    go_wp2_with (first|(refine BF rfl _ _ rfl _ _ rfl rfl _ go2 (Ah _) ?_;intro v3 go3 o3;have ga3:=(o3.block _ (by omega)).trans ga2;have ge3:=(o3.block _ (by omega)).trans ge2;have gz3:=(o3.block _ (by omega)).trans gz2;have hB3:=Below.trans hB2 (Only.below (b:=w.heap.size+1+1+1) (B:=w.heap.size) o3 (by omega));have ce:=(cell_of_row v3 (w.heap.size+1) ((255-k)/8) _ _ _ ge3).trans (BH e _ (by omega)))|(refine A7 rfl _ rfl _ _ rfl go3 (Ah _) ?_)|(refine A7 rfl _ rfl _ _ rfl ga3 (Ah _) ?_))
   ·go_roundg (256-(k+1))
    case rel=>exact⟨k+1,Hid.mk (by omega),by go_num,ga3,ge3,gz3,by rw[HN1.out,HBIT.out];exact go3,hB3⟩
    case measure=>have:=HK.out;omega
   ·refine(Cw _ _ _ (N256.mod _) HA.out).mono ?_
    rintro r v4 ⟨rfl,hb4⟩;rw[OD.out];have ga4:=Aj hb4 ga3 (Aa ga3);have ge4:=Aj hb4 ge3 (Aa ge3);have gz4:=Aj hb4 gz3 (Aa gz3);have go4:=Aj hb4 go3 (Aa go3);have hB4:=Below.trans hB3 (hb4.mono hB3.size);clear hb4 ga3 ge3 gz3 go3 hB3 ce
    go_wp2_with (refine AZ (by rfl) (by rfl) go4 (Ah _) ?_;intro v5 go5 o5)
    have ga5:=(o5.block _ (by omega)).trans ga4;have ge5:=(o5.block _ (by omega)).trans ge4;have gz5:=(o5.block _ (by omega)).trans gz4;have hB5:=Below.trans hB4 (Only.below (b:=w.heap.size+1+1+1) (B:=w.heap.size) o5 (by omega))
    go_roundg (256-(k+1))
    case rel=>exact⟨k+1,Hid.mk (by omega),by go_num,ga5,ge5,gz5,by rw[HN1.out,HBIT.out];exact go5,hB5⟩
    case measure=>have:=HK.out;omega
  ·have hk2:k=256:=by omega
   subst hk2;rw[TU] at go
   go_wp2_with (first|(refine A7 rfl _ rfl _ _ rfl go (Ah _) ?_)|(refine AZ (by rfl) (by rfl) gz (Ah _) ?_;intro v6 g6 o6))
   exact bodyPost_ret (v:=.agg (BA (a ^ e.toNat%P255))) (results_cell_row rfl _ _ _ _ _ _ _ rfl g6 underlying22 rfl (by rw[Ah];exact Bo)) rfl
    ⟨rfl,Below.trans hB (Only.below (b:=w.heap.size+1+1) (B:=w.heap.size) o6 (by omega))⟩
theorem Zg:N256 (P255-2):=by unfold N256 Bm P255;omega
theorem WP:(P255-2).toNat=Q0:=by decide +kernel
theorem WQ(a:Int)(w:World)(ha:N256 a):Calls prog 127 #[.agg (BA a)] w fun e w'=>e=.returned (.agg (BA (EU a)))∧Below w.heap.size w w':=by
 go_enter func127,ntmps127;go_wp2
 refine AJ (fun v=>v.heap[w.heap.size]?=some (.cells (BA a) 22 (0,0)) ∧
  (∃z:Array Value,v.heap[w.heap.size+1]?=some (.cells z 22 (0,0))∧z.size=32)∧Below w.heap.size w v)
  ⟨heap_alloc2_old w _ _,⟨_,heap_alloc2_new w _ _,rfl⟩,by repeat first | exact Below.refl _ _ | refine Below.alloc ?_ (by simp<;>omega) _⟩ ?_
 rintro v0 ⟨ga,⟨z,gz,sz⟩,hB⟩;refine Ay (fun v=>v.heap[w.heap.size]?=some (.cells (BA a) 22 (0,0)))
  Ab5 Ab6 [0,1,2,3] rfl (by kernel_rfl) (fun _ _ d _ _ h=>by cases d<;>exact h) ga (fun HS=>?_)
 apply AN rfl rfl rfl HS
 focus exact fun v h=>Bj rfl _ _ rfl (Ah _) h
 simp only[Act.put,Aci,Acj,Ach];clear HS ga;refine Az rfl rfl rfl ?_;intro K hK
 go_simp
 refine(WM _).mono ?_;rintro e v1 ⟨rfl,hb⟩;have gz:=Aj hb gz (Aa gz);have hB:=Below.trans (Below.drew hB) (hb.mono hB.size);refine hK _ _ (fun _ h=>Aj hb h (Aa h)) ?_;clear hK K hb;have NE:N256 (P255-2):=Zg;refine Az rfl rfl rfl ?_;intro K hK
 go_simp
 refine(WO a _ _ ha NE).mono ?_;rintro e v2 ⟨rfl,hb⟩;rw[WP];have gz:=Aj hb gz (Aa gz);have hB:=Below.trans hB (hb.mono hB.size);refine hK _ _ (fun _ h=>Aj hb h (Aa h)) ?_;clear hK K hb;refine Az rfl rfl rfl ?_;intro K hK;refine E7 _ _ rfl _ _ rfl rfl _ gz sz ?_;intro v7 g7 o7;refine hK _ _ (fun h=>by cases h) ?_;clear hK K;refine Bf ?_;go_wp2;exact bodyPost_ret (v:=.agg (BA (EU a))) (results_cell_row rfl _ _ _ _ _ _ _ rfl g7 underlying22 rfl (by rw[Ah];exact Bo)) rfl
  ⟨rfl,Below.trans hB (Only.below (b:=w.heap.size+1) (B:=w.heap.size) o7 (by omega))⟩
theorem IU(args:Array Value)(w:World):(callFunc 166 args).run prog w=.ok (.enter 166 args) w:=by kernel_rfl
theorem Ds(args:Array Value)(w:World):(callFunc 103 args).run prog w=.ok (.enter 103 args) w:=by kernel_rfl
theorem L7(args:Array Value)(w:World):(callFunc 167 args).run prog w=.ok (.enter 167 args) w:=by kernel_rfl
theorem Eu{f:FuncId}(hc:∀args w,(callFunc f args).run prog w=.ok (.enter f args) w)(xs:Array Operand)(ts:Array TypeId){o:Oper}{a:Act}{w:World}(ho:o.op=.call { callee:=.value (.func f),args:=xs,argTypes:=ts }):(execOp a.eval o).run prog w=.ok (.enter f (xs.map a.eval)) w:=by
 unfold execOp;rw[ho];simp only[resolve,Sem.run_bind];generalize xs.map a.eval=args;simp[Act.eval,Deferred.ofValue,invoke,go_sem,hc]
theorem WR{f:FuncId}(hc:∀args w,(callFunc f args).run prog w=.ok (.enter f args) w)(x:Operand)(ts:Array TypeId){o:Oper}{a:Act}{w:World}{K:Act→World→Prop}{Q:Exit→Act→World→Prop}(ho:o.op=.call { callee:=.value (.func f),args:=#[x],argTypes:=ts })(V v:Value)(hx:a.eval x=V)(hC:Calls prog f #[V] w fun r w'=>r=.returned v∧Below w.heap.size w w')(h:∀w',Below w.heap.size w w'→K (a.put o.dst v) w'):o.wp prog a w K Q:=by
 refine Gr (Eu hc #[x] ts ho) ?_;simp only[Acs,Acu,Acq,hx];exact hC.mono (fun e w' ⟨he,hb⟩=>⟨v,he,h w' hb⟩)
theorem JZ{f:FuncId}(hc:∀args w,(callFunc f args).run prog w=.ok (.enter f args) w)(x y:Operand)(ts:Array TypeId){o:Oper}{a:Act}{w:World}{K:Act→World→Prop}{Q:Exit→Act→World→Prop}(ho:o.op=.call { callee:=.value (.func f),args:=#[x,y],argTypes:=ts })(V V2 v:Value)(hx:a.eval x=V)(hy:a.eval y=V2)(hC:Calls prog f #[V,V2] w fun r w'=>r=.returned v∧Below w.heap.size w w')(h:∀w',Below w.heap.size w w'→K (a.put o.dst v) w'):o.wp prog a w K Q:=by
 refine Gr (Eu hc #[x,y] ts ho) ?_;simp only[Acs,Acu,Acq,hx,hy];exact hC.mono (fun e w' ⟨he,hb⟩=>⟨v,he,h w' hb⟩)
def known(L:List (Option (List Int)×Value))(i:Nat)(v:Value)(w:World):Prop:=
 match (L.getD i (none,undef)).1 with
 | some ns=>∃b,v=.slice (some ⟨b,0,none⟩) ns.length ns.length∧RowsAt w b 0 ns∧b<w.heap.size
 | none=>v=(L.getD i (none,undef)).2
theorem Ab{a:Act}{o:Oper}{w:World}(x:Operand)(ho:o.op=.move x):(execOp a.eval o).run prog w=.ok (.value (a.eval x)) w:=by unfold execOp;simp only[ho,Sem.run_pure]
theorem Av{a:Act}{o:Oper}{w:World}(x:Operand)(ho:o.op=.assign x):(execOp a.eval o).run prog w=.ok (.value (a.eval x)) w:=by unfold execOp;simp only[ho,Sem.run_pure]
theorem Q6(w:World):(Instr.build 22 #[]).run prog w=.ok (.agg (BA 0)) w:=by kernel_rfl
theorem Ka{a:Act}{o:Oper}{w:World}(ho:o.op=.build 22 #[]):(execOp a.eval o).run prog w=.ok (.value (.agg (BA 0))) w:=by
 unfold execOp;simp only[ho,Acs,Acq,Sem.run_bind,Q6,Result.andThen_ok,Sem.run_pure]
end Go.Proofs.YthghcjepdhkfdaaGreatDoor.Fld
namespace Go.Proofs.YthghcjepdhkfdaaGreatDoor.Fld
open Go
section
variable {P:Program} {ops:Array Oper} {Q:Exit→Act→World→Prop}
def RQ(ops:Array Oper)(m:Nat):Bool:=
 decide (ops.size=m+1) && (ops.toList.take m).all (fun o=>o.dst.isSome) && decide (CI ops).Nodup &&
 (Aco ops.size).all (fun i=>match ops[i]? with
  | some o=>o.after.all (fun e=>!Region.binds .any e || decide (e.on<i))
  | none=>true) &&
 (match ops[m]? with | some o=>o.guard.isNone && (Aco m).all (fun j=>CX o j) | none=>false)
theorem L8{id:Nat}{a0:Act}{w0:World}(m:Nat)(ol:Oper)(S:World→Prop)(R:World→World→Prop)(φ:Nat→Value→World→Prop)(hm:P.follows .mixedOrders=true)(hB:RQ ops m=true)(hol:ops[m]?=some ol)(hS0:S w0.drew)(hSR:∀w w',S w→R w w'→S w')(hφ:∀i v w w',φ i v w→R w w'→φ i v w')(step:∀(i:Nat) (o:Oper),i<m→ops[i]?=some o→∀(a:Act) (w:World),S w→(∀t:Nat,(∀(j:Nat) (oj:Oper),ops[j]?=some oj→oj.dst=some t→CX oj i=true)→a.tmps[t]?=a0.tmps[t]?) →(∀(j:Nat) (oj:Oper) (d:Nat),ops[j]?=some oj→oj.dst=some d→CX o j=true→φ j (a.tmps.getD d undef) w) →wpOp P ops Q i (fun a' w'=>∃v,a'=a.put o.dst v∧φ i v w'∧R w w') a w)(fin:∀(vs:Nat→Value) (w:World),S w→(∀(i:Nat) (o:Oper) (d:Nat),i<m→ops[i]?=some o→o.dst=some d→φ i (vs d) w)→ol.wp P (Am a0 vs (CI ops)) w (fun a' w'=>Q .normal a' w') Q)(hsz:∀d∈CI ops,d<a0.tmps.size):(Code.region id ops true).wp P Q a0 w0:=by
 simp only[RQ,Acm,decide_eq_true_eq,hol] at hB;obtain⟨⟨⟨⟨hsize,hsome⟩,hnd⟩,hord⟩,hgn,hwait⟩:=hB;refine wp_region_any hm (Ft (fun listed a w=>(Mid ops a0 S φ listed a w∧listed.getD m false=false)∨((∀i,i<ops.size→listed.getD i true=true)∧Q .normal a w)) ?_ ?_ ops.size _ a0 _ ?_ ?_)
 ·intro listed a w i inv hi
  obtain⟨hun,oi,hoi,hall⟩:=mem_ready.1 hi
  have hils:i<listed.size:=by
   rcases Ac5 i listed.size with h | h
   ·exact h
   ·simp[Acv h] at hun
  have hilt:i<ops.size:=(Array.getElem?_eq_some_iff.1 hoi).1;have hunf:listed.getD i false=false:=by simp[hils] at hun ⊢;exact hun
  rcases inv with ⟨mid,hnl⟩ | ⟨hdone,_⟩
  ·by_cases him:i=m
   ·subst him
    obtain rfl:oi=ol:=Option.some.inj (hoi.symm.trans hol)
    have hlist:∀j,j<i→listed.getD j false=true:=fun j hj=>by
     have h1:=List.all_eq_true.1 hwait j (List.mem_range.2 hj);obtain⟨e,he,hb⟩:=Array.any_eq_true'.1 h1;simp only[Acm,beq_iff_eq] at hb;have h2:=hall e he hb.1
     rwa [hb.2] at h2
    have hq:=fin (fun d=>a.tmps.getD d undef) w mid.world (fun j o d hj ho hd=>mid.known j o d ho hd (hlist j hj))
    have ha:Am a0 (fun d=>a.tmps.getD d undef) (CI ops)=a:=by
     have h1:=DT (fun d=>a.tmps.getD d undef) (CI ops) a0
     have h2:(Am a0 (fun d=>a.tmps.getD d undef) (CI ops)).tmps=a.tmps:=by
      apply AcK;intro t
      by_cases ht:t<a0.tmps.size
      ·rw[EA _ _ _ _ ht]
       by_cases hm2:t∈CI ops
       ·rw[if_pos hm2]
        have:t<a.tmps.size:=by rw[mid.size];exact ht
        simp[this]
       ·rw[if_neg hm2]
        exact(mid.frame t (fun i o hi _ hd=>hm2 (List.mem_filterMap.2 ⟨o,by simpa using AcP hi,hd⟩))).symm
      ·rw[Acv (by rw[Fc];omega),Acv (by rw[mid.size];omega)]
     rw[←mid.defers] at h1;generalize Am a0 (fun d=>a.tmps.getD d undef) (CI ops)=b at h1 h2;cases a;cases b;simp only at h1 h2;rw[h1,h2]
    rw[ha] at hq
    have hw:Region.wanted oi (yielded ops a.tmps)=true:=by
     unfold Region.wanted
     cases hgd:oi.guard with
     | none=>rfl
     | some x=>rw[hgd] at hgn;simp at hgn
    have hlsz:listed.size=ops.size:=mid.lsize;unfold wpOp;simp only[hoi,hw,if_true];refine .inl (Oper.wp_mono (fun a' w' h=>.inr ⟨fun j hj=>?_,h⟩) hq)
    by_cases hji:i=j
    ·subst hji;simp[hils]
    ·rw[getD_set_ne true hji]
     have h1:=hlist j (by omega);have hjl:j<listed.size:=by omega
     simp[hjl] at h1 ⊢;exact h1
   ·have hlt:i<m:=by omega
    have hst:=step i oi hlt hoi a w mid.world
     (fun t ht=>mid.frame t (fun j oj hj hl hd=>by
      obtain⟨e,he,hb⟩:=Array.any_eq_true'.1 (ht j oj hj hd);simp only[Acm,beq_iff_eq] at hb;have:=mid.closed j oj hj hl e he hb.1;rw[hb.2,hunf] at this;cases this))
     (fun j oj d hj hd hp=>by
      obtain⟨e,he,hb⟩:=Array.any_eq_true'.1 hp;simp only[Acm,beq_iff_eq] at hb;have:=hall e he hb.1;rw[hb.2] at this;exact mid.known j oj d hj hd this)
    refine wpOp_mono (fun a' w' h'=>?_) hst;obtain⟨v,rfl,hv,hR⟩:=h';have hsi:oi.dst.isSome=true:=List.all_eq_true.1 hsome oi (List.mem_of_getElem? (i:=i) (by rw[AcM,if_pos hlt];simpa using hoi));obtain⟨di,hdi⟩:=Option.isSome_iff_exists.1 hsi;have hmem:di∈CI ops:=List.mem_filterMap.2 ⟨oi,by simpa using AcP hoi,hdi⟩;have hdlt:di<a.tmps.size:=by rw[mid.size];exact hsz di hmem
    have hself:(listed.setIfInBounds i true).getD i false=true:=by simp[hils]
    rw[hdi];refine .inl ⟨⟨by simp[mid.lsize],fun j oj hj hl e he hb=>?_,by simpa [Act.put] using mid.size,mid.defers,hSR w w' mid.world hR,fun t ht=>?_,fun j oj d hj hd hl=>?_⟩,by rw[getD_set_ne false him];exact hnl⟩
    ·rcases CY hl with rfl | hl
     ·obtain rfl:oj=oi:=Option.some.inj (hj.symm.trans hoi)
      have h1:=hall e he hb
      by_cases hie:j=e.on
      ·rw[hie];rw[hie] at hself;exact hself
      ·rw[getD_set_ne false hie];exact h1
     ·have h1:=mid.closed j oj hj hl e he hb
      by_cases hie:i=e.on
      ·rw[←hie];exact hself
      ·rw[getD_set_ne false hie];exact h1
    ·have hne:di≠t:=fun h=>ht i oi hoi hself (by rw[hdi,h])
     rw[show (a.put (some di) v).tmps[t]?=a.tmps[t]? from by simp[Act.put,hne]]
     exact mid.frame t (fun j oj hj hl=>ht j oj hj (by
      by_cases hij:i=j
      ·subst hij;exact hself
      ·rw[getD_set_ne false hij];exact hl))
    ·rcases CY hl with rfl | hl
     ·obtain rfl:oj=oi:=Option.some.inj (hj.symm.trans hoi)
      obtain rfl:d=di:=Option.some.inj (hd.symm.trans hdi);rw[show (a.put (some d) v).tmps.getD d undef=v from by simp[Act.put,hdlt]];exact hv
     ·have hne:di≠d:=fun h=>by
       subst h;have:=Jo hnd hoi hj hdi hd;subst this;rw[hunf] at hl;cases hl
      rw[show (a.put (some di) v).tmps.getD d undef=a.tmps.getD d undef from by simp[Act.put,hne]];exact hφ j _ w w' (mid.known j oj d hj hd hl) hR
  ·have:=hdone i hilt
   rw[hun] at this;cases this
 ·intro listed a w inv hr
  rcases inv with ⟨mid,hnl⟩ | ⟨_,hq⟩
  ·exfalso
   have hall:∀n i,i<n→i<ops.size→listed.getD i false=true:=by
    intro n
    induction n with
    | zero=>intro i h;cases h
    | succ n ih =>
     intro i hin hil
     by_cases hlt:i<n
     ·exact ih i hlt hil
     ·have hin':i=n:=by omega
      subst hin'
      cases hg:listed.getD i false with
      | true=>rfl
      | false =>
       have ho:ops[i]?=some ops[i]:=Acx hil;have h1:=List.all_eq_true.1 hord i (List.mem_range.2 hil);simp only[ho] at h1
       have hin2:i∈Region.ready .any ops listed:=mem_ready.2 ⟨by
        have:i<listed.size:=by rw[mid.lsize];exact hil
        simp[this] at hg ⊢;exact hg,_,ho,fun e he hb=>by
        have h2:=Array.all_eq_true'.1 h1 e he;simp only[hb,Bool.not_true,Bool.false_or,decide_eq_true_eq] at h2;exact ih e.on h2 (by omega)⟩
       rw[hr] at hin2;cases hin2
   have h1:=hall (m+1) m (by omega) (by omega);rw[hnl] at h1;cases h1
  ·exact hq
 ·unfold H8
  exact Acp (List.length_filter_le _ _) (by simp)
 ·exact .inl ⟨⟨by simp,fun j oj _ hl=>(by rw[Br] at hl;cases hl),rfl,rfl,hS0,fun _ _=>rfl,fun i o d _ _ hl=>(by rw[Br] at hl;cases hl)⟩,Br _ _⟩
structure Last (P:Program) (Q:Exit→Act→World→Prop) (ol:Oper) (a:Act) (w:World):Prop where
 out:ol.wp P a w (fun a' w'=>Q .normal a' w') Q
theorem Kb{a:Act}{vs:Nat→Value}{l:List Nat}{t:Nat}(ht:t∈l)(hs:t<a.tmps.size):(Am a vs l).eval (.tmp t)=vs t:=by
 simp only[Act.eval];rw[AcR,EA vs l a t hs,if_pos ht];rfl
def ZP(ops:Array Oper)(m:Nat)(ds:List Nat)(base:List Nat)(p:List (List Nat)):Bool:=
 ((ops.toList.take m).map (·.dst)==ds.map some) && base.all (fun t=>!ds.contains t) &&
 (Aco m).all (fun k=>match ops[k]? with
  | some o=>(p.getD k []).all (fun j=>CX o j && decide (j<m)) && (match o.guard with | some (g,_)=>decide (g<m) | none=>true)
  | none=>true) && (match ops[m]? with | some o=>o.dst.isNone | none=>false)
theorem JG{id:Nat}{a0:Act}{w0:World}(m:Nat)(ol:Oper)(S:World→Prop)(R:World→World→Prop)(φ:Nat→Value→World→Prop)(ds:List Nat)(base:List (Nat×Value))(p:List (List Nat))(hm:P.follows .mixedOrders=true)(hB:(RQ ops m && ZP ops m ds (base.map (·.1)) p && ds.all (fun d=>decide (d<a0.tmps.size)))=true)(hdrop:ops.toList.drop m=[ol])(hb0:Gp a0 base)(hS0:S w0.drew)(hSR:∀w w',S w→R w w'→S w')(hφ:∀i v w w',φ i v w→R w w'→φ i v w')(steps:AllSteps P S R φ ds base p 0 (ops.toList.take m))(fin:∀(vs:Nat→Value) (w:World),S w→(∀j:Nat,j<ds.length→φ j (vs (ds.getD j 0)) w)→Last P Q ol (Am a0 vs ds) w):(Code.region id ops true).wp P Q a0 w0:=by
 have hol:ops[m]?=some ol:=by
  rw[←Array.getElem?_toList];have h:=congrArg (fun l=>l[0]?) hdrop
  simpa [List.getElem?_drop] using h
 simp only[Acm] at hB;obtain⟨⟨hI,hT⟩,hsz⟩:=hB
 have hsize:ops.size=m+1:=by
  simp only[RQ,Acm,decide_eq_true_eq] at hI;exact hI.1.1.1.1
 simp only[ZP,Acm,beq_iff_eq,hol] at hT;obtain⟨⟨⟨hds,hbase⟩,htab⟩,hnone⟩:=hT;have hnone':ol.dst=none:=by simpa using hnone
 have hm1:m<ops.size:=by omega
 have hat:∀(j:Nat) (oj:Oper),j<m→ops[j]?=some oj→(ops.toList.take m)[j]?=some oj:=fun j oj hj ho=>by
  rw[AcM,if_pos hj];simpa using ho
 have hdst:∀(j:Nat) (oj:Oper),j<m→ops[j]?=some oj→oj.dst=some (ds.getD j 0)∧j<ds.length:=fun j oj hjm hj=>by
  have h1:((ops.toList.take m).map (·.dst))[j]?=some oj.dst:=by rw[AcL,hat j oj hjm hj];rfl
  rw[hds,AcL] at h1
  cases hq:ds[j]? with
  | none=>rw[hq] at h1;simp at h1
  | some d =>
   rw[hq] at h1;have hl:j<ds.length:=(List.getElem?_eq_some_iff.1 hq).1;refine⟨?_,hl⟩;rw[AcG,hq]
   simpa using h1.symm
 have hlt:∀(j:Nat) (oj:Oper) (d:Nat),ops[j]?=some oj→oj.dst=some d→j<m:=fun j oj d hj hd=>by
  have h1:j<ops.size:=(Array.getElem?_eq_some_iff.1 hj).1
  by_cases e:j=m
  ·subst e
   obtain rfl:oj=ol:=Option.some.inj (hj.symm.trans hol);rw[hnone'] at hd;cases hd
  ·omega
 have hdsts:CI ops=ds:=by
  unfold CI
  have hsplit:ops.toList=ops.toList.take m++[ol]:=by
   have h1:=(List.take_append_drop m ops.toList).symm
   have h2:ops.toList.drop m=[ol]:=by
    have hl:m<ops.toList.length:=by simpa using hm1
    rw[List.drop_eq_getElem_cons hl,List.drop_of_length_le (by rw[AcE];omega)];have h3:ops.toList[m]?=some ol:=by simpa using hol
    rw[Ac1 hl] at h3;rw[Option.some.inj h3]
   rw[h2] at h1;exact h1
  rw[hsplit,List.filterMap_append];have h1:(ops.toList.take m).filterMap (·.dst)=((ops.toList.take m).map (·.dst)).filterMap (fun x=>x):=by rw[List.filterMap_map];rfl
  rw[h1,hds,List.filterMap_map];have h4:([ol].filterMap fun o=>o.dst)=[]:=by simp[hnone']
  rw[h4,List.append_nil];exact List.filterMap_some
 refine L8 m ol S R φ hm hI hol hS0 hSR hφ (fun i o him hi a w hS hfr hkn=>?_) (fun vs w hS h=>?_) (fun d hd=>by rw[hdsts] at hd;simpa using List.all_eq_true.1 hsz d hd)
 ·have hil:i<ops.size:=(Array.getElem?_eq_some_iff.1 hi).1
  have ht:=List.all_eq_true.1 htab i (List.mem_range.2 him);simp only[hi,Acm] at ht;have st:=AllSteps.at (ops.toList.take m) p 0 steps i o (hat i o him hi);rw[Acl] at st;obtain⟨hg,hk⟩:=st Q a w hS
   (Ix base (fun t htm=>Gq (hfr t (fun j oj hj hd=>by
    exfalso;have h1:=List.all_eq_true.1 hbase t htm;have h2:=(hdst j oj (hlt j oj t hj hd) hj).1;rw[hd] at h2;have h3:t=ds.getD j 0:=Option.some.inj h2
    have h4:t∈ds:=by
     rw[h3,AcG,Ac1 (hdst j oj (hlt j oj t hj hd) hj).2];simp
    simp[h4] at h1))) hb0)
   (KA _ (fun j hj=>by
    have h1:=List.all_eq_true.1 ht.1 j hj;simp only[Acm,decide_eq_true_eq] at h1;have hoj:ops[j]?=some (ops[j]'(by omega)):=Acx (by omega);have h2:=hkn j _ _ hoj (hdst j _ h1.2 hoj).1 h1.1
    simpa [Act.eval] using h2))
  have hw:Region.wanted o (yielded ops a.tmps)=true:=by
   unfold Region.wanted
   cases hgd:o.guard with
   | none=>rfl
   | some x =>
    obtain⟨g,b⟩:=x;rw[hgd] at hg;have h2:=ht.2;rw[hgd] at h2;simp only[decide_eq_true_eq] at h2;have hog:ops[g]?=some (ops[g]'(by omega)):=Acx (by omega);have hd:=(hdst g _ h2 hog).1
    have h4:a.tmps[ds.getD g 0]?=some (.bool b):=by
     simp only[Act.eval] at hg;rw[AcR] at hg
     cases hq:a.tmps[ds.getD g 0]? with
     | none=>rw[hq] at hg;simp[undef] at hg
     | some v=>rw[hq] at hg;simpa using hg
    have hy:yielded ops a.tmps g=some b:=by
     unfold yielded;rw[hog];simp only[Option.bind_some,hd,h4]
    simp[hy]
  unfold wpOp;simp only[hi,hw,if_true];exact .inl (hk _ (fun v w' h1 h2=>⟨v,rfl,h1,h2⟩))
 ·rw[hdsts]
  refine(fin vs w hS (fun j hj=>?_)).out;have hlen:(ops.toList.take m).length=ds.length:=by have:=congrArg List.length hds;simpa using this
  have hjm:j<m:=by rw[←hlen,AcF] at hj;omega
  have hoj:ops[j]?=some (ops[j]'(by omega)):=Acx (by omega);exact h j _ _ hjm hoj (hdst j _ hjm hoj).1
end
end Go.Proofs.YthghcjepdhkfdaaGreatDoor.Fld
namespace Go.Proofs.YthghcjepdhkfdaaGreatDoor.Fld
open Go.RowKit Go.Proofs
open Tryz
def Q4(x z v w:Int):Array Value:=BA x++BA z++BA v++BA w
theorem AP(x z v w:Int):(Q4 x z v w).size=128:=by simp[Q4,Ah]
theorem Oc(x z v w:Int):(Q4 x z v w).all (·.oneCell')=true:=by
 simp only[Q4,Array.all_append,N4,Bool.and_self]
theorem Mn(x z v w:Int)(j:Nat)(hj:j<32):(Q4 x z v w)[j]?=(BA x)[j]?:=by
 unfold Q4;rw[AcJ (by simp[Ah];omega),AcJ (by simp[Ah];omega),AcJ (by simp[Ah];omega)]
theorem Ks(x z v w:Int)(j:Nat)(hj:j<32):(Q4 x z v w)[32+j]?=(BA z)[j]?:=by
 unfold Q4;rw[AcJ (by simp[Ah];omega),AcJ (by simp[Ah];omega),Array.getElem?_append_right (by simp[Ah])];simp[Ah]
theorem Mo(x z v w:Int)(j:Nat)(hj:j<32):(Q4 x z v w)[64+j]?=(BA v)[j]?:=by
 unfold Q4;rw[AcJ (by simp[Ah];omega),Array.getElem?_append_right (by simp[Ah])];simp[Ah]
theorem Mp(x z v w:Int)(j:Nat)(_hj:j<32):(Q4 x z v w)[96+j]?=(BA w)[j]?:=by
 unfold Q4;rw[Array.getElem?_append_right (by simp[Ah])];simp[Ah]
theorem Ct{wd:World}{b o:Nat}{n:Int}{cs:Array Value}(hg:wd.heap[b]?=some (.cells cs 156 (0,0)))(h:∀j,j<32→cs[o+j]?=(BA n)[j]?):wd.rangeAt b o (BA n).toList:=
 fun j v hv=>by
  have hj:j<32:=by have:=(List.getElem?_eq_some_iff.1 hv).1;rwa [AcE,Ah] at this
  rw[cell_of_row wd b (o+j) _ _ _ hg,h j hj]
  simpa using hv
theorem FX:(Tryz.prog.info? 156).map (·.size)=some 128:=by kernel_rfl
theorem GJ{ops:Array Oper}{rest:List Oper}{d:Option Tmp}{X Y:Operand}{t:TypeId}{ps:String}{af:Array Edge}{a:Act}{wd:World}{Q:Exit→Act→World→Prop}{g:Nat}{x z v w:Int}{old:Array Value}(hx:a.eval X=.pointer (some ⟨g,0,none⟩))(hy:a.eval Y=.agg (Q4 x z v w))(hg:wd.heap[g]?=some (.cells old 156 (0,0)))(hold:old.size=128)(h:∀w2,w2.heap[g]?=some (.cells (Q4 x z v w) 156 (0,0))→Only g wd w2→wpList prog ops Q rest (a.put d undef) w2):wpList prog ops Q ({ dst:=d,op:=.store 156 X Y,type:=t,pos:=ps,after:=af,guard:=none }::rest) a wd:=
 Ia rfl 156 X Y rfl g _ hx hy 156 _ hg (by rw[AP];exact FX) (by rw[AP];exact hold) (Oc x z v w) h
theorem MX{a:Act}{o:Oper}{wd:World}{K:Act→World→Prop}{Q:Exit→Act→World→Prop}(X Y:Operand)(ho:o.op=.store 156 X Y)(g:Nat)(x z v w:Int)(hx:a.eval X=.pointer (some ⟨g,0,none⟩))(hy:a.eval Y=.agg (Q4 x z v w))(old:Array Value)(hg:wd.heap[g]?=some (.cells old 156 (0,0)))(hold:old.size=128)(h:∀w2,w2.heap[g]?=some (.cells (Q4 x z v w) 156 (0,0))→Only g wd w2→K (a.put o.dst undef) w2):o.wp prog a wd K Q:=
 wp_store_row 156 X Y ho g _ hx hy 156 old hg (by rw[AP];exact FX) (by rw[AP];exact hold) (Oc x z v w) (h _ (setRow_heap wd g old _ 156 (0,0) hg) (Cd wd g _))
theorem Q7{a:Act}{o:Oper}{wd:World}{Q:Exit→Act→World→Prop}(X Y:Operand)(ho:o.op=.store 156 X Y)(g:Nat)(x z v w:Int)(hx:a.eval X=.pointer (some ⟨g,0,none⟩))(hy:a.eval Y=.agg (Q4 x z v w))(old:Array Value)(hg:wd.heap[g]?=some (.cells old 156 (0,0)))(hold:old.size=128)(h:∀w2,w2.heap[g]?=some (.cells (Q4 x z v w) 156 (0,0))→Only g wd w2→Q .normal (a.put o.dst undef) w2):Last prog Q o a wd:=
 ⟨MX X Y ho g x z v w hx hy old hg hold h⟩
theorem L9{ops:Array Oper}{rest:List Oper}{o:Oper}{a:Act}{wd:World}{Q:Exit→Act→World→Prop}(hgd:o.guard=none)(X:Operand)(ho:o.op=.load 156 X)(g:Nat)(x z v w:Int)(hx:a.eval X=.pointer (some ⟨g,0,none⟩))(hg:wd.heap[g]?=some (.cells (Q4 x z v w) 156 (0,0)))(h:wpList prog ops Q rest (a.put o.dst (.agg (Q4 x z v w))) wd):wpList prog ops Q (o::rest) a wd:=
 wpList_load_row hgd 156 X ho g hx 156 _ (0,0) _ hg underlying156 rfl (by rw[AP];exact FX) h
theorem Q8{a:Act}{o:Oper}{X:Operand}{wd:World}(ho:o.op=.load 156 X)(g:Nat)(x z v w:Int)(hx:a.eval X=.pointer (some ⟨g,0,none⟩))(hg:wd.heap[g]?=some (.cells (Q4 x z v w) 156 (0,0))):(execOp a.eval o).run prog wd=.ok (.value (.agg (Q4 x z v w))) wd:=by
 unfold execOp;simp only[ho,hx,Instr.loadAt,Instr.sureAddr,Sem.run_bind,Sem.run_pure,Result.andThen_ok,run_loadVar_row wd g 156 156 _ (0,0) _ hg underlying156 rfl (by rw[AP];exact FX)]
theorem Q9(x z v w:Int)(wd:World):(Instr.build 156 #[(0,.agg (BA x)),(1,.agg (BA z)),(2,.agg (BA v)),(3,.agg (BA w))]).run prog wd=.ok (.agg (Q4 x z v w)) wd:=by kernel_rfl
theorem Kc{a:Act}{o:Oper}{wd:World}{A B C D:Operand}(ho:o.op=.build 156 #[(0,A),(1,B),(2,C),(3,D)])(x z v w:Int)(hA:a.eval A=.agg (BA x))(hB:a.eval B=.agg (BA z))(hC:a.eval C=.agg (BA v))(hD:a.eval D=.agg (BA w)):(execOp a.eval o).run prog wd=.ok (.value (.agg (Q4 x z v w))) wd:=by
 have h:=Q9 x z v w wd;unfold execOp;simp only[ho,Acs,Acu,Acq,hA,hB,hC,hD,Sem.run_bind,h,Result.andThen_ok,Sem.run_pure]
theorem FY(a:Int)(w:World)(ha:N256 a):Calls prog 158 #[.agg (BA a)] w fun e w'=>e=.returned (.agg (BA (a*a%P255)))∧Below w.heap.size w w':=by
 have HA:=Hid.mk ha;clear ha;go_enter func158,ntmps158
 go_wp2_with (refine A7 rfl _ rfl _ _ rfl (heap_alloc2_old w _ _) (Ah _) ?_)
 refine(Cw a a _ HA.out HA.out).mono ?_;rintro e v2 ⟨rfl,hb2⟩;have gz:=Aj hb2 (heap_alloc2_new w _ _) (by simp);have hB:=Below.trans (((Below.refl _ w).alloc (Acg _) _).alloc (by simp) _) (hb2.mono (by simp;omega));clear hb2
 go_wp2_with (refine AZ (by rfl) (by rfl) gz (by rfl) ?_;intro v3 g3 o3)
 exact bodyPost_ret (v:=.agg (BA (a*a%P255))) (results_cell_row rfl _ _ _ _ _ _ _ rfl g3 underlying22 rfl (by rw[Ah];exact Bo)) rfl
  ⟨rfl,Below.trans hB (Only.below (b:=w.heap.size+1) (B:=w.heap.size) o3 (by omega))⟩
def tb(b:Bool)(p q:Int):Int:=if b then q else p
theorem Ga(w:World):(zeroValue 156).run prog w=.ok (.agg (Q4 0 0 0 0)) w:=by kernel_rfl
theorem LA(x z v w:Int)(b:Bool)(wd:World):Calls prog 155 #[.agg (Q4 x z v w),.bool b] wd fun e w'=>e=.returned (.agg (Q4 (tb b x v) (tb b z w) (tb b v x) (tb b w z)))∧Below wd.heap.size wd w':=by
 have hsz:=AP x z v w;have hz:=Ga
 cases b with
 | true =>
  go_enter func155,ntmps155
  go_wp2_with (first
   | (refine C7 rfl _ rfl wd.heap.size 0 x rfl (Ct (heap_alloc2_old wd _ _) (fun j hj=>by rw[Acl];exact Mn x z v w j hj)) ?_)
   | (refine C7 rfl _ rfl wd.heap.size 32 z rfl (Ct (heap_alloc2_old wd _ _) (Ks x z v w)) ?_)
   | (refine C7 rfl _ rfl wd.heap.size 64 v rfl (Ct (heap_alloc2_old wd _ _) (Mo x z v w)) ?_)
   | (refine C7 rfl _ rfl wd.heap.size 96 w rfl (Ct (heap_alloc2_old wd _ _) (Mp x z v w)) ?_)
   | (refine Ae rfl (Kc rfl v w x z rfl rfl rfl rfl) ?_)
   | (refine GJ (by rfl) (by rfl) (heap_alloc2_new wd _ _) (AP 0 0 0 0) ?_;intro w3 g3 o3))
  exact bodyPost_ret (v:=.agg (Q4 v w x z)) (results_cell_row rfl _ _ _ _ _ _ _ rfl g3 underlying156 rfl (by rw[AP];exact FX)) rfl
   ⟨rfl,Below.trans (((Below.refl _ wd).alloc (Acg _) _).alloc (by simp) _) (Only.below (b:=wd.heap.size+1) (B:=wd.heap.size) o3 (by omega))⟩
 | false =>
  go_enter func155,ntmps155
  go_wp2_with (first
   | (refine L9 rfl _ rfl wd.heap.size x z v w rfl (heap_alloc2_old wd _ _) ?_)
   | (refine GJ (g:=wd.heap.size+1) (x:=x) (z:=z) (v:=v) (w:=w) (old:=Q4 0 0 0 0) (by rfl) (by rfl) (by exact heap_alloc2_new wd _ _) (AP 0 0 0 0) ?_;intro w3 g3 o3))
  exact bodyPost_ret (v:=.agg (Q4 x z v w)) (results_cell_row rfl _ _ _ _ _ _ _ rfl g3 underlying156 rfl (by rw[AP];exact FX)) rfl
   ⟨rfl,Below.trans (((Below.refl _ wd).alloc (Acg _) _).alloc (by simp) _) (Only.below (b:=wd.heap.size+1) (B:=wd.heap.size) o3 (by omega))⟩
end Go.Proofs.YthghcjepdhkfdaaGreatDoor.Fld
namespace Go.Proofs.YthghcjepdhkfdaaGreatDoor.Fld
section
variable {n:Nat} [NeZero n]
structure Fd (n:Nat) [NeZero n] where
 inv:Fin n→Fin n
 mul_inv:∀a,a≠0→a*inv a=1
 two:(2:Fin n)≠0
 inv0:inv 0=0
variable (K:Fd n)
include K in
include K in
include K in
include K in
include K in
include K in
include K in
include K in
end
section
variable {n:Nat} [NeZero n] (K:Fd n)
include K in
end
section
variable {n:Nat} [NeZero n] (K:Fd n)
include K in
include K in
include K in
end
section
variable {n:Nat} [NeZero n] (K:Fd n)
structure Qd (n:Nat) where
  X:Fin n
  Z:Fin n
  V:Fin n
  W:Fin n
def Qd.turn(b:Bool)(q:Qd n):Qd n:=if b then ⟨q.V,q.W,q.X,q.Z⟩ else q
def Qd.core(k x:Fin n)(q:Qd n):Qd n:=
  ⟨(q.X+q.Z)*(q.X+q.Z)*((q.X-q.Z)*(q.X-q.Z)),
   ((q.X+q.Z)*(q.X+q.Z)-(q.X-q.Z)*(q.X-q.Z))*((q.X+q.Z)*(q.X+q.Z)+k*((q.X+q.Z)*(q.X+q.Z)-(q.X-q.Z)*(q.X-q.Z))),
   ((q.V-q.W)*(q.X+q.Z)+(q.V+q.W)*(q.X-q.Z))*((q.V-q.W)*(q.X+q.Z)+(q.V+q.W)*(q.X-q.Z)),
   x*(((q.V-q.W)*(q.X+q.Z)-(q.V+q.W)*(q.X-q.Z))*((q.V-q.W)*(q.X+q.Z)-(q.V+q.W)*(q.X-q.Z)))⟩
def Qd.step(k x:Fin n)(b:Bool)(q:Qd n):Qd n:=((q.turn b).core k x).turn b
def Qd.run(k x:Fin n)(bs:List Bool)(q:Qd n):Qd n:=bs.foldl (fun q b=>Qd.step k x b q) q
def Qd.start(x:Fin n):Qd n:=⟨1,0,x,1⟩
include K in
include K in
def Lad(k x:Fin n)(bs:List Bool):Fin n:=(Qd.run k x bs (Qd.start x)).X*K.inv (Qd.run k x bs (Qd.start x)).Z
def RS(q:Qd n):Prop:=q.Z=0∧(q.W=0∨(q.X=1∧q.V=0∧q.W=1))
theorem TV(k:Fin n)(b:Bool){q:Qd n}(h:RS q):RS (Qd.step k 0 b q):=by
  obtain⟨hz,hw⟩:=h
  cases b with
  | false =>
    refine⟨?_,.inl ?_⟩
    · show ((q.X+q.Z)*(q.X+q.Z)-(q.X-q.Z)*(q.X-q.Z))*((q.X+q.Z)*(q.X+q.Z)+k*((q.X+q.Z)*(q.X+q.Z)-(q.X-q.Z)*(q.X-q.Z)))=0
      rw[hz];grind
    · show 0*(((q.V-q.W)*(q.X+q.Z)-(q.V+q.W)*(q.X-q.Z))*((q.V-q.W)*(q.X+q.Z)-(q.V+q.W)*(q.X-q.Z)))=0
      grind
  | true =>
    refine⟨?_,.inl ?_⟩
    · show 0*(((q.X-q.Z)*(q.V+q.W)-(q.X+q.Z)*(q.V-q.W))*((q.X-q.Z)*(q.V+q.W)-(q.X+q.Z)*(q.V-q.W)))=0
      grind
    · show ((q.V+q.W)*(q.V+q.W)-(q.V-q.W)*(q.V-q.W))*((q.V+q.W)*(q.V+q.W)+k*((q.V+q.W)*(q.V+q.W)-(q.V-q.W)*(q.V-q.W)))=0
      rcases hw with h | ⟨_,h1,h2⟩
      · rw[h];grind
      · rw[h1,h2];grind
theorem WS(k:Fin n)(bs:List Bool){q:Qd n}(h:RS q):RS (Qd.run k 0 bs q):=by
  induction bs generalizing q with
  | nil=>exact h
  | cons b bs ih=>exact ih (TV k b h)
theorem lad_zero(k:Fin n)(bs:List Bool):Lad K k 0 bs=0:=by
  have h:=(WS k bs (q:=Qd.start 0) ⟨rfl,.inr ⟨rfl,rfl,rfl⟩⟩).1;unfold Lad;rw[h,K.inv0];grind
end
section
variable {n:Nat} [NeZero n] (K:Fd n)
include K in
include K in
include K in
include K in
include K in
include K in
end
def pN:Nat:=57896044618658097711785492504343953926634992332820282019728792003956564819949
instance:NeZero pN:=⟨by decide⟩
theorem LB:(pN:Int)=P255:=rfl
abbrev Fp:=Fin pN
def ofI(x:Int):Fp:=⟨(x%P255).toNat,by
 have h0:=(Ef x).1;have h1:=(Ef x).2;have h2:=LB;omega⟩
theorem ofI_val(x:Int):((ofI x).val:Int)=x%P255:=Int.toNat_of_nonneg (Ef x).1
theorem fp_ext{a b:Fp}(h:(a.val:Int)=(b.val:Int)):a=b:=Fin.ext (by omega)
theorem ofI_eq{x y:Int}:ofI x=ofI y↔x%P255=y%P255:=
 ⟨fun h=>by have:=congrArg (fun a:Fp=>(a.val:Int)) h;simpa only [ofI_val] using this,fun h=>fp_ext (by rw[ofI_val,ofI_val,h])⟩
theorem RT(x:Int):ofI (x%P255)=ofI x:=ofI_eq.2 (Int.emod_emod x P255)
theorem Pj(a:Fp):ofI (a.val:Int)=a:=fp_ext (by
 rw[ofI_val];exact AcN (by omega) (by have h:=a.isLt;have h2:=LB;omega))
theorem Od(x y:Int):ofI (x+y)=ofI x+ofI y:=fp_ext (by
 rw[Fin.val_add,Int.natCast_emod,Int.natCast_add,ofI_val,ofI_val,ofI_val,LB,←Int.add_emod])
theorem K3(x y:Int):ofI (x*y)=ofI x*ofI y:=fp_ext (by
 rw[Fin.val_mul,Int.natCast_emod,Int.natCast_mul,ofI_val,ofI_val,ofI_val,LB,←Int.mul_emod])
theorem Pl:ofI 0=0:=rfl
theorem RU:ofI 1=1:=fp_ext (by rw[ofI_val];decide +kernel)
theorem RV(x y:Int):ofI (x-y)=ofI x-ofI y:=by
 have h:ofI (x-y)+ofI y=ofI x:=by rw[←Od,Int.sub_add_cancel]
 rw[←h];grind
theorem WT{x:Int}:ofI x≠0↔x%P255≠0:=by
 rw[←Pl,Ne,ofI_eq,Int.zero_emod]
def Kp:Fd pN where
 inv a:=ofI (EU (a.val:Int))
 mul_inv a ha:=by
  have h:(a.val:Int)%P255≠0:=by rw[←WT,Pj];exact ha
  have e:a*ofI (EU (a.val:Int))=ofI ((a.val:Int)*EU (a.val:Int)):=by rw[K3,Pj]
  rw[e,←RU,ofI_eq,Zd h];decide +kernel
 two:=by
  have:(2:Fp)=ofI 2:=fp_ext (by rw[ofI_val];decide +kernel);rw[this,WT];decide +kernel
 inv0:=by
  show ofI (EU ((0:Fp).val:Int))=0;rw[TR (by decide +kernel)];rfl
theorem Aa1(x:Int):Kp.inv (ofI x)=ofI (EU x):=by
 show ofI (EU ((ofI x).val:Int))=_;rw[ofI_val,ofI_eq];unfold EU;rw[L5]
def qN:Nat:=14474011154664524427946373126085988481658748083205070504932198000989141204987
def rN:Nat:=7237005577332262213973186563042994240829374041602535252466099000494570602494
theorem r2:rN+rN=qN+1:=by decide +kernel
def kN:Fp:=121665
def Pm:Int:=28948022309329048855892746252171976963317496166410141009864396001978282409984
def Cx(k:Int):Int:=k%Pm/8*8+Pm
theorem Oe(k:Int):Pm≤Cx k∧Cx k<W255∧Cx k%8=0:=by unfold Cx Pm W255;omega
theorem LC(k:Int):N256 (Cx k):=by
 have h:=Oe k;unfold N256 Bm;unfold Pm W255 at h;omega
theorem QA(m:Int)(i:Nat)(hi:1≤i):byt (m/8*8) i=byt m i:=by
 obtain⟨j,rfl⟩:∃j,i=j+1:=⟨i-1,by omega⟩;unfold byt;rw[Acr,Acy (256 ^ j) 256,←AcO (show (0:Int)≤256 by decide),←AcO (show (0:Int)≤256 by decide),show m/8*8/256=m/256 by omega]
theorem TW(k:Int)(i:Nat)(h1:1≤i)(h2:i<31):byt (Cx k) i=byt k i:=by
 have e:Cx k%256 ^ 31=k%256 ^ 31/8*8:=by unfold Cx Pm;omega
 rw[←Hj (Cx k) i 31 h2,e,QA _ i h1,Hj k i 31 h2]
theorem Pn(k:Int)(hk:N256 k):((BA k).setIfInBounds 0 (.int .u8 (byt k 0/8*8))).setIfInBounds 31 (.int .u8 (byt k 31%64+64))=BA (Cx k):=by
 obtain⟨h0,h1⟩:=hk;unfold Bm at h1;apply Lt
 ·simp[Ah]
 ·intro i hi
  rw[AcI]
  by_cases e:31=i
  ·subst e
   simp only[if_true,Array.size_setIfInBounds,Ah];rw[if_pos (by omega)];congr 2;unfold byt Cx Pm;omega
  ·rw[if_neg e,AcI]
   by_cases e0:0=i
   ·subst e0
    simp only[if_true,Ah];rw[if_pos (by omega)];congr 2;unfold byt Cx Pm;omega
   ·rw[if_neg e0,BH _ _ hi,TW k i (by omega) (by omega)]
def Fg(N:Nat)(j:Nat):List Bool:=(Aco j).map fun i=>N.testBit (254-i)
theorem IV(N j:Nat):Fg N (j+1)=Fg N j++[N.testBit (254-j)]:=by
 unfold Fg;rw[List.range_succ,List.map_append];rfl
theorem Po(k x:Fp)(bs:List Bool)(b:Bool)(q:Qd pN):Qd.run k x (bs++[b]) q=Qd.step k x b (Qd.run k x bs q):=by
 unfold Qd.run;rw[List.foldl_append];rfl
def IW(k:Int):List Bool:=Fg (Cx k).toNat 255
def tN(k u:Int):Int:=((Lad Kp kN (ofI (u%W255)) (IW k)).val:Int)
theorem WU(k u:Int):0≤tN k u∧tN k u<P255:=by
 have h:=(Lad Kp kN (ofI (u%W255)) (IW k)).isLt;have h2:=LB;unfold tN;omega
theorem WV(k u:Int):N256 (tN k u):=by
 have h:=WU k u;unfold N256 Bm;unfold P255 at h;omega
def QI(x z v w:Int):Qd pN:=⟨ofI x,ofI z,ofI v,ofI w⟩
theorem Zh(N:Int)(j:Nat)(h0:0≤N):(bits BinOp.and IntKind.u8 (byt N ((254-j)/8)/2 ^ ((254-j)%8)) 1==1)=N.toNat.testBit (254-j):=by
 have hb:=Bq N ((254-j)/8);unfold BR at hb;have hp:(0:Int)<2 ^ ((254-j)%8):=Int.pow_pos (by decide);have h1:0≤byt N ((254-j)/8)/2 ^ ((254-j)%8):=Int.ediv_nonneg hb.1 (by omega)
 have h2:byt N ((254-j)/8)/2 ^ ((254-j)%8)<256:=by
  have:=Int.ediv_le_self (2 ^ ((254-j)%8)) hb.1;omega
 rw[Ip _ h1 h2,NS N (254-j) h0,Nat.testBit_eq_decide_div_mod_eq];generalize N.toNat/2 ^ (254-j)=G;have hG:G%2=0∨G%2=1:=by omega
 rcases hG with hG | hG<;>simp[hG]
theorem RW(k u X Z V W:Int)(h:Qd.run kN (ofI (u%W255)) (IW k) (Qd.start (ofI (u%W255)))=QI X Z V W):(X*EU Z)%P255=tN k u:=by
 unfold tN Lad;rw[h];show _=((ofI X*Kp.inv (ofI Z)).val:Int);rw[Aa1,←K3,ofI_val]
end Go.Proofs.YthghcjepdhkfdaaGreatDoor.Fld
