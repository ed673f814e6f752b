/-
  Own text. What a hash that is being made stands for: so many bytes of a text.
-/
import Derived.Test.YthghcjepdhkfdaaGreatDoorJB10
import Derived.Test.YthghcjepdhkfdaaGreatDoorJB3
import Derived.Test.YthghcjepdhkfdaaGreatDoorJB1
import Derived.Recover
import Derived.WalkSmall
import Derived.Test.YthghcjepdhkfdaaGreatDoorJB4
import Derived.Test.YthghcjepdhkfdaaGreatDoorJB6
set_option maxHeartbeats 16000000
set_option maxRecDepth 100000
open Int renaming mul_le_mul_of_nonneg_right→AcT,pow_succ→Acr,toNat_natCast→AcB
open List renaming getD_eq_getElem?_getD→AcG,getElem?_eq_none→Ac7,map_cons→Acu,map_nil→Acq,map_toArray→Acs,setIfInBounds_toArray→Aci,set_cons_succ→Ach,set_cons_zero→Acj
open Nat renaming add_sub_cancel_left→Ac0,add_zero→Ac6,le_refl→Acg,le_trans→Acp,zero_add→Acl
namespace Go.Proofs.YthghcjepdhkfdaaGreatDoor
open Go.RowKit Go.Proofs
open Tryz
theorem Xr{h:Nat→Int}{t:Int}(last:Bool)(hh:∀i,i<8→W32 (h i))(ht:0≤t∧t<18446744073709551616):∀i,i<16→W32 (Bv h t last i):=fun i hi=>by
 unfold Bv
 split
 ·exact hh i (by omega)
 split
 ·exact A9 (Gh 4) (by unfold W32;omega)
 split
 ·exact A9 (Gh 5) (by unfold W32;omega)
 split
 ·exact A9 (Gh 6) (by unfold W32;omega)
 ·exact Gh _
theorem QS{m v:Nat→Int}(h:∀i,i<16→W32 (v i)):∀k i,i<16→W32 (CK m v k i)
 | 0,i,hi=>h i hi
 | k+1,i,hi=>by
  have e:CK m v (k+1)=Ja (CK m v k) (fun j=>m (ord k j)):=LQ m k _;rw[e];exact QM (QS h k) i hi
theorem Zq{h s:Nat→Int}{t:Int}(last:Bool)(hh:∀i,i<8→W32 (h i))(ht:0≤t∧t<18446744073709551616):∀i,i<8→W32 (Bh h s t last i):=fun i hi =>
 A9 (A9 (hh i hi) (QS (Xr last hh ht) 10 i (by omega))) (QS (Xr last hh ht) 10 (i+8) (by omega))
theorem RZ{all:ByteArray}{h0:Nat→Int}(hh:∀i,i<8→W32 (h0 i)):∀k,k≤144115188075855872→∀i,i<8→W32 (stF all h0 k i)
 | 0,_=>hh
 | k+1,hk=>Zq _ (RZ hh k (by omega)) (by omega)
structure HashK (w:World) (b:Nat) (all:ByteArray) (h0:Nat→Int) (k h:Nat) (B:Nat→Int):Prop where
 at':HashAt w b (stF all h0 k) ((64*k:Nat):Int) B (h:Int)
 bs:Byts 64 B
 eq:∀j,j<h→B j=txt all (64*k+j)
def HashN(w:World)(b:Nat)(all:ByteArray)(h0:Nat→Int)(n:Nat):Prop:=∃k h B,64*k+h=n∧h≤64∧(h=0→k=0)∧HashK w b all h0 k h B
theorem HashK.block{w w':World}{b:Nat}{all:ByteArray}{h0:Nat→Int}{k h:Nat}{B:Nat→Int}(g:HashK w b all h0 k h B)(e:w'.heap[b]?=w.heap[b]?):HashK w' b all h0 k h B:=⟨g.at'.block e,g.bs,g.eq⟩
theorem HashN.block{w w':World}{b:Nat}{all:ByteArray}{h0:Nat→Int}{n:Nat}(g:HashN w b all h0 n)(e:w'.heap[b]?=w.heap[b]?):HashN w' b all h0 n:=by
 obtain⟨k,h,B,h1,h2,h3,h4⟩:=g;exact⟨k,h,B,h1,h2,h3,h4.block e⟩
theorem HashN.lt{w:World}{b:Nat}{all:ByteArray}{h0:Nat→Int}{n:Nat}(g:HashN w b all h0 n):b<w.heap.size:=by
 obtain⟨k,h,B,h1,h2,h3,h4⟩:=g;exact h4.at'.lt
theorem HashN.kept{w w':World}{b:Nat}{all:ByteArray}{h0:Nat→Int}{n:Nat}(g:HashN w b all h0 n)(hb:Below w.heap.size w w'):HashN w' b all h0 n:=g.block (hb.block b g.lt)
theorem Zr{all:ByteArray}{h0:Nat→Int}{k:Nat}(h:64*k+64<all.size):Bh (stF all h0 k) (fun j=>txt all (64*k+j)) (((64*k:Nat):Int)+((64:Nat):Int)) false=stF all h0 (k+1):=by
 have e1:min 64 (all.size-64*k)=64:=by omega
 show _=Bh (stF all h0 k) (fun j=>txt all (64*k+j)) ((64*k+min 64 (all.size-64*k):Nat):Int) (decide (64*k+min 64 (all.size-64*k)=all.size));rw[e1,decide_eq_false (by omega)];rfl
theorem Zs{all:ByteArray}{h0:Nat→Int}{k h:Nat}(e:64*k+h=all.size)(h64:h≤64)(hz:h=0→k=0):Bh (stF all h0 k) (fun j=>txt all (64*k+j)) (((64*k:Nat):Int)+(h:Int)) true=stF all h0 (nbF all.size):=by
 have e1:min 64 (all.size-64*k)=h:=by omega
 have e2:nbF all.size=k+1:=by
  unfold nbF
  split<;>omega
 rw[e2];show _=Bh (stF all h0 k) (fun j=>txt all (64*k+j)) ((64*k+min 64 (all.size-64*k):Nat):Int) (decide (64*k+min 64 (all.size-64*k)=all.size));rw[e1,decide_eq_true e];rfl
theorem Gd(s:ByteArray)(j:Nat)(h:s.size≤j):txt s j=0:=by
 unfold txt;have:s.data.toList.length≤j:=by simpa using h
 rw[AcG,Ac7 this];rfl
theorem JK{w:World}{b h m dC:Nat}{H B:Nat→Int}{t l:Int}(ty:TypeId)(s:ByteArray)(gm:HashAt w b H t B l)(hm:m=min s.size (64-h)):(Builtin.copy_ #[81,9] ty #[.slice (some ⟨b,9+h,none⟩) (64-h) dC,.string s]).run prog w=.ok (goInt m) (w.setCells b (9+h) (AC .u8 m (txt s))):=by
 have hmin:Nat.min s.size (64-h)=m:=hm.symm
 have hst:=run_storeCells_cells (P:=prog) b (9+h) (AC .u8 m (txt s)) 0 w (by
   intro j hj;rw[A3] at hj;rw[Ac6,gm.at _ (by omega)];rfl) (fun j _=>gm.free _) EG
 simp[Builtin.copy_,run_underlying underlying81,Builtin.lenOf,Builtin.firstCells,hmin];rw[M0 s m (by omega),hst];rfl
theorem Xs(ts:Nat→ByteArray){i cnt:Nat}(hi:i<cnt){j:Nat}(hj:j<(ts i).size):txt (AY ts cnt) ((AY ts i).size+j)=txt (ts i) j:=by
 induction cnt with
 | zero=>omega
 | succ n ih =>
  rw[AY,EI]
  by_cases e:i=n
  ·subst e
   rw[if_neg (by omega),Ac0]
  ·have h1:=KI ts (show i+1≤n by omega)
   rw[AY,ByteArray.size_append] at h1;rw[if_pos (by omega)];exact ih (by omega)
theorem Xt(b l:Nat)(w:World)(hl:l<64):(Instr.sliceAt 183 (.pointer (some ⟨b,9,none⟩)) (some (.int .i64 (l:Int))) none none).run prog w=.ok (.slice (some ⟨b,9+l,none⟩) (64-l) (64-l)) w:=by
 rw[run_sliceAt_array_l (P:=prog) w 183 ⟨b,9,none⟩ underlying183 .i64 (l:Int) (by omega) (by rw[Hy];omega),FI,Hy];simp only[Result.andThen_ok,slicedAt,AcB,Nat.mul_one];rw[if_neg (by omega),Addr.add_lit]
theorem AbD(b:Nat)(w:World):(Instr.sliceAt 183 (.pointer (some ⟨b,9,none⟩)) (some (.int .i64 64)) none none).run prog w=.ok (.slice (some ⟨b,9,none⟩) 0 0) w:=by
 rw[run_sliceAt_array_l (P:=prog) w 183 ⟨b,9,none⟩ underlying183 .i64 64 (by omega) (by rw[Hy];omega),FI,Hy];rfl
theorem LX(b:Nat)(all:ByteArray)(h0:Nat→Int)(n0:Nat)(v:Value)(cnt:Nat)(ts:Nat→ByteArray)(w:World)(hTw:Tabs w)(hb2:3≤b)(hN:HashN w b all h0 n0)(h0w:∀i,i<8→W32 (h0 i))(hsz0:all.size≤1152921504606846976)(hv:∀w',Touch (fun x=>x=b) w w'→Strs w' v cnt ts)(hcn:cnt<4611686018427387904)(hfit:n0+(AY ts cnt).size≤all.size)(heq:∀j,j<(AY ts cnt).size→txt all (n0+j)=txt (AY ts cnt) j):Calls prog 142 #[.pointer (some ⟨b,0,none⟩),v] w fun e w'=>e=.returned (.tuple #[])∧HashN w' b all h0 (n0+(AY ts cnt).size)∧Touch (fun x=>x=b) w w':=by
 obtain⟨a,c,rfl,hp⟩:=hv w (Touch.refl _ _);have HV:=Hid.mk hv;clear hv hp;have HTw:Hid (∀u,Touch (fun x=>x=b) w u→Tabs u):=Hid.mk (fun u hu=>hTw.touch hu hb2);have HEQ:=Hid.mk heq;clear heq hTw;go_enter func142,ntmps142;go_wp2_with fail
 go_loopg [9] cnt (fun gm iv v=>∃i:Nat,Hid (gm+i=cnt)∧iv=.int .i64 (i:Int)∧HashN v b all h0 (n0+(AY ts i).size)∧Touch (fun x=>x=b) w v)
 case atStart=>exact⟨0,Hid.mk rfl,rfl,hN,Touch.refl _ _⟩
 case round =>
  clear hN;obtain⟨i,HI,rfl,hN,ht⟩:=hrel;have hin:i≤cnt:=by have:=HI.out;omega
  by_cases hil:i<cnt
  ·obtain⟨a',c',e,hp⟩:=HV.out wr ht
   simp only[Value.slice.injEq] at e;obtain⟨rfl,_,rfl⟩:=e;obtain⟨p,rfl,hc⟩:=hp (by omega);have hc1:=hc i hil;clear hc hp;obtain⟨s,hs⟩:∃s,ts i=s:=⟨_,rfl⟩;obtain⟨n,hn⟩:∃n,n0+(AY ts i).size=n:=⟨_,rfl⟩;have hjs:(AY ts (i+1)).size=(AY ts i).size+s.size:=by rw[AY,ByteArray.size_append,hs]
   have hjm:=KI ts (show i+1≤cnt from hil);have HF:Hid (n+s.size≤all.size):=Hid.mk (by omega)
   have HA:Hid (∀j,j<s.size→txt all (n+j)=txt s j):=Hid.mk (fun j hj=>by
    have h1:=HEQ.out ((AY ts i).size+j) (by omega);rw[←Nat.add_assoc,hn] at h1;rw[h1,Xs ts hil (by rw[hs];exact hj),hs])
   have HNX:Hid (n+s.size=n0+(AY ts (i+1)).size):=Hid.mk (by omega);rw[hn] at hN;rw[hs] at hc1;clear hjs hjm hn hs;have hd:decide ((i:Int)<(cnt:Int))=true:=by simp;omega
   go_wp2_with fail;generalize wr=wo at *;generalize gk=gz at *;clear hc1
   go_loopg [5] s.size (fun gm pv v=>∃q:Nat,Hid (gm+q=s.size)∧pv=.string (s.extract q s.size)∧HashN v b all h0 (n+q)∧Touch (fun x=>x=b) w v)
   case atStart=>exact⟨0,Hid.mk rfl,by simp,hN,ht⟩
   case round =>
    clear hN ht;obtain⟨q,HK,rfl,hN,ht⟩:=hrel;have hks:q≤s.size:=by have:=HK.out;omega
    have hsz:=Cc s q;obtain⟨t,ht0⟩:∃t,s.extract q s.size=t:=⟨_,rfl⟩;rw[ht0] at hsz;rw[ht0]
    by_cases hkl:q<s.size
    ·have hpos:(0:Int)<(t.size:Int):=by omega
     obtain⟨k,h,B,e1,e2,e3,gK⟩:=hN
     by_cases h64:h=64
     ·subst h64
      have gm:=gK.at';have hch:=gm.held;have hkb:64*k+64<all.size:=by have:=HF.out;omega
      have gmc:=gm.congr (B':=fun j=>txt all (64*k+j)) gK.eq;have hfd:((((64:Nat):Int))==64)=true:=rfl;go_wp2_with fail;refine(P3 b 64 _ _ _ false _ (HTw.out _ ht) hb2 gmc (RZ h0w k (by omega)) (fun j _=>Bn _ _) (by omega) (by omega) (Acg _)).mono ?_;rintro e v7 ⟨rfl,gm7,ht7⟩;rw[Zr hkb] at gm7;replace ht7:=ht.trans ht7;clear ht gmc gm hch gK e2 e3 hfd;obtain⟨k',hk'⟩:∃k',k+1=k':=⟨_,rfl⟩;have HBS:Hid (Byts 64 (fun j=>txt all (64*k+j))):=Hid.mk (fun j _=>Bn _ _);generalize (fun j=>txt all (64*k+j))=B' at *;rw[hk',show (((64*k:Nat):Int)+((64:Nat):Int))=((64*k':Nat):Int) by omega] at gm7;have e1':64*k' + 0=n+q:=by omega
      clear e1 hk' hkb;clear B k;obtain⟨k,rfl⟩:∃k,k=k':=⟨_,rfl⟩;obtain⟨B,rfl⟩:∃B,B=B':=⟨_,rfl⟩;obtain⟨h,hh0⟩:∃h:Nat,h=0:=⟨_,rfl⟩;have gm:HashAt v7 b (stF all h0 k) ((64*k:Nat):Int) B (h:Int):=by rw[hh0];exact gm7
      have HH0:=Hid.mk hh0;have hh64:h<64:=by omega
      have e1:64*k+h=n+q:=by omega
      have HE:Hid (∀j,j<h→B j=txt all (64*k+j)):=Hid.mk (fun j hj=>by omega);clear gm7 e1' hh0;have HT:Hid (∀j,q+j<s.size→txt t j=txt all (64*k+(h+j))):=Hid.mk (fun j hj=>by rw[←ht0,B7 s q j hj,←HA.out (q+j) hj];congr 1;omega);obtain⟨m,hm⟩:∃m,m=min t.size (64-h):=⟨_,rfl⟩;have hsl:=fun v=>Xt b h v hh64
      have hcp2:=JK (dC:=64-h) 3 t gm.drew hm;have hch:=gm.held;have hset:=gm.drew.setBk h m (txt t) (by omega)
      have HX:Hid (t.extract m t.size=s.extract (q+m) s.size):=Hid.mk (by
       have h1:(t.extract m t.size).size=s.size-(q+m):=by rw[Cc];omega
       have h2:=Cc s (q+m);rw[←CE (t.extract m t.size),←CE (s.extract (q+m) s.size),h1,h2];refine GV (fun j hj=>?_);rw[B7 t m j (by omega),B7 s (q+m) j (by omega),←ht0,B7 s q (m+j) (by omega),Nat.add_assoc])
      have HO:Hid (∀j,j<h+m→over B h m (txt t) j=txt all (64*k+j)):=Hid.mk (fun j hj=>by
       unfold over
       split
       ·rw[HT.out (j-h) (by omega)]
        congr 1;omega
       ·exact HE.out j (by omega))
      have HB:Hid (Byts 64 (over B h m (txt t))):=Hid.mk (fun i hi=>by
       unfold over
       split
       ·exact Bn t _
       ·exact HBS.out i hi)
      have hmt:(m:Int)≤(t.size:Int):=by omega
      have hm1:1≤m∧q+m≤s.size∧h+m≤64:=by omega
      have hwr:=Cg (n:=(h:Int)+(m:Int)) (by omega) (by omega);have HZ:=Hid.mk hsz;have HM:=Hid.mk hm;clear hsz hm HT ht0;generalize gk=gz at *;go_wp2_with fail
      go_region
      generalize over B h m (txt t)=B' at *;generalize v7.drew.setCells b (9+h) (AC .u8 m (txt t))=v5 at *;obtain⟨gm5,o5⟩:=hset;have ht5:Touch (fun x=>x=b) w v5:=(Touch.drew ht7).trans (Ag o5);clear hcp2 hsl o5 gm hch ht7;have hch:=gm5.held;have hcf:=gm5.free 73;have gm6:=gm5.setHeld ((h:Int)+(m:Int));have ht6:Touch (fun x=>x=b) w (v5.setCell ⟨b,73,none⟩ (.int .i64 ((h:Int)+(m:Int)))):=ht5.trans (Ag only_set);go_wp2_with fail
      go_roundg (s.size-(q+m))
      case rel=>exact⟨q+m,Hid.mk (by omega),congrArg Value.string HX.out,⟨k,h+m,B',by omega,by omega,by omega,⟨by rw[show ((h+m:Nat):Int)=(h:Int)+(m:Int) by omega];exact gm6,HB.out,HO.out⟩⟩,ht6⟩
      case measure=>have:=HK.out;omega
     ·have gm:=gK.at'
      have HE:=Hid.mk gK.eq;have HBS:=Hid.mk gK.bs;have hh64:h<64:=by omega
      have hfi:¬((h:Int)=64):=by omega
      have hfd:((h:Int)==64)=false:=by simpa using hfi
      have HT:Hid (∀j,q+j<s.size→txt t j=txt all (64*k+(h+j))):=Hid.mk (fun j hj=>by rw[←ht0,B7 s q j hj,←HA.out (q+j) hj];congr 1;omega);have HE3:=Hid.mk e3;clear gK e2 e3 h64;obtain⟨m,hm⟩:∃m,m=min t.size (64-h):=⟨_,rfl⟩;have hsl:=fun v=>Xt b h v hh64
      have hcp2:=JK (dC:=64-h) 3 t gm.drew hm;have hch:=gm.held;have hset:=gm.drew.setBk h m (txt t) (by omega)
      have HX:Hid (t.extract m t.size=s.extract (q+m) s.size):=Hid.mk (by
       have h1:(t.extract m t.size).size=s.size-(q+m):=by rw[Cc];omega
       have h2:=Cc s (q+m);rw[←CE (t.extract m t.size),←CE (s.extract (q+m) s.size),h1,h2];refine GV (fun j hj=>?_);rw[B7 t m j (by omega),B7 s (q+m) j (by omega),←ht0,B7 s q (m+j) (by omega),Nat.add_assoc])
      have HO:Hid (∀j,j<h+m→over B h m (txt t) j=txt all (64*k+j)):=Hid.mk (fun j hj=>by
       unfold over
       split
       ·rw[HT.out (j-h) (by omega)]
        congr 1;omega
       ·exact HE.out j (by omega))
      have HB:Hid (Byts 64 (over B h m (txt t))):=Hid.mk (fun i hi=>by
       unfold over
       split
       ·exact Bn t _
       ·exact HBS.out i hi)
      have hmt:(m:Int)≤(t.size:Int):=by omega
      have hm1:1≤m∧q+m≤s.size∧h+m≤64:=by omega
      have hwr:=Cg (n:=(h:Int)+(m:Int)) (by omega) (by omega);have HZ:=Hid.mk hsz;have HM:=Hid.mk hm;clear hsz hm HT ht0;generalize gk=gz at *;go_wp2_with fail
      go_region
      generalize over B h m (txt t)=B' at *;generalize wr.drew.setCells b (9+h) (AC .u8 m (txt t))=v5 at *;obtain⟨gm5,o5⟩:=hset;have ht5:Touch (fun x=>x=b) w v5:=(Touch.drew ht).trans (Ag o5);clear hcp2 hsl o5 gm hch ht;have hch:=gm5.held;have hcf:=gm5.free 73;have gm6:=gm5.setHeld ((h:Int)+(m:Int));have ht6:Touch (fun x=>x=b) w (v5.setCell ⟨b,73,none⟩ (.int .i64 ((h:Int)+(m:Int)))):=ht5.trans (Ag only_set);go_wp2_with fail
      go_roundg (s.size-(q+m))
      case rel=>exact⟨q+m,Hid.mk (by omega),congrArg Value.string HX.out,⟨k,h+m,B',by omega,by omega,by omega,⟨by rw[show ((h+m:Nat):Int)=(h:Int)+(m:Int) by omega];exact gm6,HB.out,HO.out⟩⟩,ht6⟩
      case measure=>have:=HK.out;omega
    ·have hk2:q=s.size:=by omega
     subst hk2;have hz0:t.size=0:=by omega
     rw[HNX.out] at hN;clear HNX HA HF;go_wp2_with fail
     go_roundg (cnt-(i+1))
     case rel=>exact⟨i+1,Hid.mk (by omega),by go_num,hN,ht⟩
     case measure=>have:=HI.out;omega
  ·have hi2:i=cnt:=by omega
   subst hi2;go_wp2_with fail
   go_end0
   exact⟨rfl,hN,ht⟩
theorem QT(n:Nat):List.replicate n (Value.int .u8 0)=AC .u8 n (fun _=>0):=by
 unfold AC;simp[List.map_const']
theorem AbE(w:World):(zeroValue 5).run prog w=.ok (.int .u8 0) w:=by kernel_rfl
theorem QU{w:World}{b h dC:Nat}{H B:Nat→Int}{t l:Int}(ty:TypeId)(gm:HashAt w b H t B l)(hh:h<64):(Builtin.clear_ #[81] ty #[.slice (some ⟨b,9+h,none⟩) (64-h) dC]).run prog w=.ok (.tuple #[]) (w.setCells b (9+h) (AC .u8 (64-h) (fun _=>0))):=by
 rw[←QT];exact Lib.run_clear_slice (P:=prog) w 81 5 ty (.int .u8 0) underlying81 AbE rfl rfl b (9+h) (64-h) dC (by omega) (fun j hj=>by rw[gm.at _ (by omega)];rfl) (fun j _=>gm.free _)
theorem QV(b:Nat)(ty:TypeId)(w:World):(Builtin.clear_ #[81] ty #[.slice (some ⟨b,9,none⟩) 0 0]).run prog w=.ok (.tuple #[]) w:=by
 simp[Builtin.clear_,run_underlying underlying81]
theorem Aa9(n:Nat):nbF n≤n/64+1:=by
 unfold nbF
 split<;>omega
theorem Touch.trans_new{b g:Nat}{u v w:World}(h:Touch (fun x=>x=b) u v)(k:Only g v w)(hg:u.heap.size≤g:=by omega):Touch (fun x=>x=b) u w:=
 ⟨k.os.trans h.os,k.tape.trans h.tape,k.output.trans h.output,by rw[k.size];exact h.size,fun i hi hn=>(k.block i (by omega)).trans (h.block i hi hn)⟩
theorem Sa(b:Nat)(all:ByteArray)(h0:Nat→Int)(w:World)(hTw:Tabs w)(hb2:3≤b)(hN:HashN w b all h0 all.size)(h0w:∀i,i<8→W32 (h0 i))(hsz0:all.size≤1152921504606846976):Calls prog 143 #[.pointer (some ⟨b,0,none⟩)] w fun e w'=>e=.returned (.agg (WA .u8 32 (DL (stF all h0 (nbF all.size)))))∧Touch (fun x=>x=b) w w':=by
 obtain⟨k,h,B,e1,e2,e3,gK⟩:=hN;have hW:=RZ (all:=all) h0w (nbF all.size) (by have:=Aa9 all.size;omega);have HST:=Hid.mk (Zs (h0:=h0) e1 e2 e3);have HBE:Hid (∀j,j<64→h≤j→txt all (64*k+j)=0):=Hid.mk (fun j _ hj=>Gd all _ (by omega));have HEQ:=Hid.mk gK.eq;have h0k:=RZ (all:=all) h0w k (by omega);have gm:=gK.at'.alloc (.cells (WA .u8 32 fun _=>0) 22);have hblt:=gK.at'.lt;have g0:ArrAt (w.alloc (.cells (WA .u8 32 fun _=>0) 22)) w.heap.size .u8 22 32 (fun _=>0):=heap_alloc_new w _;have ht:Touch (fun x=>x=b) w (w.alloc (.cells (WA .u8 32 fun _=>0) 22)):=Gc b ((Below.refl _ w).alloc (Acg _) _);have HT:Hid (∀u,Touch (fun x=>x=b) w u→Tabs u):=Hid.mk (fun u hu=>hTw.touch hu hb2);clear hTw gK e3;generalize stF all h0 (nbF all.size)=Z at *;generalize stF all h0 k=S at *;go_enter func143,ntmps143;go_wp2_with fail;refine AJ (fun v=>HashAt v b S ((64*k:Nat):Int) B (h:Int)∧ArrAt v w.heap.size .u8 22 32 (fun _=>0)∧Touch (fun x=>x=b) w v) ⟨gm,g0,ht⟩ ?_;clear gm g0 ht;rintro v0 ⟨gm,g0,ht⟩;have hch:=gm.held
 have HTL:Hid (∀v1:World,HashAt v1 b S ((64*k:Nat):Int) (fun j=>txt all (64*k+j)) (h:Int)→ArrAt v1 w.heap.size .u8 22 32 (fun _=>0)→Touch (fun x=>x=b) w v1 →
   Calls prog 172 #[.pointer (some ⟨b,0,none⟩),.bool true] v1 fun e w'=>e=.returned (.tuple #[])∧HashAt w' b Z (((64*k:Nat):Int)+(h:Int)) (fun j=>txt all (64*k+j)) 0∧ArrAt w' w.heap.size .u8 22 32 (fun _=>0)∧Touch (fun x=>x=b) w w'):=Hid.mk (fun v1 g1 g2 t1=>by
  refine(P3 b h S _ _ true v1 (HT.out v1 t1) hb2 g1 h0k (fun j _=>Bn _ _) (by omega) (by omega) e2).mono ?_;rintro e w2 ⟨rfl,g3,t3⟩;rw[HST.out] at g3;exact⟨rfl,g3,g2.touch t3 (by omega),t1.trans t3⟩)
 by_cases h64:h=64
 ·subst h64
  have hsl:=fun v=>AbD b v
  have hcl:=fun ty=>QV b ty v0.drew
  have gm1:=gm.congr (B':=fun j=>txt all (64*k+j)) HEQ.out;clear gm
  go_region
  go_wp2_with fail;refine(HTL.out _ (gm1.drew) (g0.drew) (ht.drew)).mono ?_;rintro e v6 ⟨rfl,gm6,g06,ht6⟩;have hst:=gm6.st
  go_wp2_with (refine Ae rfl (Ao rfl Mr (by rfl) hst) ?_)
  refine(Ng Z v6 hW).mono ?_;rintro e v7 ⟨rfl,hb7⟩;replace g06:=g06.kept hb7;replace ht6:=ht6.trans (Gc b hb7);clear hb7 gm6 hst
  go_wp2_with (refine A1 Af g06 (by rfl) (by rfl) ?_;intro v8 g8 o8;refine Hid.out ?_)
  refine Hid.mk ?_;go_wp2_with fail;exact bodyPost_ret (AE results143 Af g8 (by rfl)) rfl ⟨rfl,ht6.trans_new o8⟩
 ·have hh:h<64:=by omega
  have hsl:=fun v=>Xt b h v hh
  have hcl:=fun ty=>QU (dC:=64-h) ty gm.drew hh
  have hset:=gm.drew.setBk h (64-h) (fun _=>0) (by omega);obtain⟨hs1,hs2⟩:=hset
  have gm1:=hs1.congr (B':=fun j=>txt all (64*k+j)) (fun j hj=>by
   unfold over
   by_cases e:h≤j∧j<h+(64-h)
   ·rw[if_pos e,HBE.out j hj e.1]
   ·rw[if_neg e];exact HEQ.out j (by omega))
  have g01:=g0.drew.only hs2 (by omega);have ht1:=(ht.drew).trans (Ag hs2);clear gm hs1 hs2
  go_region
  generalize v0.drew.setCells b (9+h) (AC .u8 (64-h) (fun _=>0))=v5 at *;go_wp2_with fail;refine(HTL.out _ (gm1) (g01) (ht1)).mono ?_;rintro e v6 ⟨rfl,gm6,g06,ht6⟩;have hst:=gm6.st
  go_wp2_with (refine Ae rfl (Ao rfl Mr (by rfl) hst) ?_)
  refine(Ng Z v6 hW).mono ?_;rintro e v7 ⟨rfl,hb7⟩;replace g06:=g06.kept hb7;replace ht6:=ht6.trans (Gc b hb7);clear hb7 gm6 hst
  go_wp2_with (refine A1 Af g06 (by rfl) (by rfl) ?_;intro v8 g8 o8;refine Hid.out ?_)
  refine Hid.mk ?_;go_wp2_with fail;exact bodyPost_ret (AE results143 Af g8 (by rfl)) rfl ⟨rfl,ht6.trans_new o8⟩
theorem QW(s:Nat→Int)(w:World):(Instr.build 197 #[(0,.agg (WA .u32 8 s))]).run prog w=.ok (.agg (JJ s 0 (fun _=>0) 0)) w:=by kernel_rfl
theorem Kh{a:Act}{o:Oper}{w:World}{x:Operand}(ho:o.op=.build 197 #[(0,x)]){s:Nat→Int}(hx:a.eval x=.agg (WA .u32 8 s)):(execOp a.eval o).run prog w=.ok (.value (.agg (JJ s 0 (fun _=>0) 0))) w:=by
 have h:=QW s w;unfold execOp;simp only[ho,Acs,Acu,Acq,hx,Sem.run_bind,h,Result.andThen_ok,Sem.run_pure]
theorem Sb{ops:Array Oper}{rest:List Oper}{d:Option Tmp}{x:Operand}{t:TypeId}{ps:String}{af:Array Edge}{a:Act}{w:World}{Q:Exit→Act→World→Prop}{cs:Array Value}(hx:a.eval x=.agg cs)(h:∀w',w'.heap[w.heap.size]?=some (.cells cs 197 (0,0))→Below w.heap.size w w'→wpList prog ops Q rest (a.put d (.pointer (some ⟨w.heap.size,0,none⟩))) w'):wpList prog ops Q ({ dst:=d,op:=.box 197 x,type:=t,pos:=ps,after:=af,guard:=none }::rest) a w:=by
 refine CZ rfl ?_;unfold Oper.wp execOp;simp only[hx];simp[go_sem];exact h _ (heap_alloc_new w _) ((Below.refl _ _).alloc (Acg _) _)
theorem AbF(b:Nat)(w:World):(Instr.sliceAt 183 (.pointer (some ⟨b,9,none⟩)) none none none).run prog w=.ok (.slice (some ⟨b,9,none⟩) 64 64) w:=by simp[go_sem]
theorem Nh(size:Nat)(key all:ByteArray)(w:World)(hTw:Tabs w)(hs:size≤64)(hk:key.size≤64)(hall:key.size≠0→∀j,j<64→txt all j=txt key j):Calls prog 141 #[.int .i64 (size:Int),.string key] w fun e w'=>∃b,w.heap.size≤b∧e=.returned (.pointer (some ⟨b,0,none⟩))∧HashN w' b all (h0F size key.size) (if key.size=0 then 0 else 64)∧Below w.heap.size w w':=by
 have hF:=fun w hT=>LW size key.size w hT hs hk
 generalize h0F size key.size=Z at *
 by_cases h0:key.size=0
 ·have hke:key=⟨#[]⟩:=by
   have:key=ByteArray.empty:=by simpa using h0
   rw[this];rfl
  have HK:=Hid.mk hke;rw[if_pos h0];clear h0 hall hke;go_enter func141,ntmps141;go_wp2_with fail;refine(hF _ hTw).mono ?_;rintro e v1 ⟨rfl,hb1⟩
  go_wp2_with (first|(refine Ae rfl (Kh rfl (by rfl)) ?_)|(refine Sb (by rfl) ?_;intro v2 gm hb2;refine Hid.out ?_))
  have gH:HashAt v2 v1.heap.size Z 0 (fun _=>0) 0:=gm;have hB:=hb1.trans (hb2.mono hb1.size);have hz:=hb1.size;clear gm hb2 hb1;rw[HK.out];refine Hid.mk ?_;go_wp2_with fail
  go_ret
  exact⟨v1.heap.size,hz,rfl,⟨0,0,fun _=>0,rfl,by omega,fun _=>rfl,⟨gH,fun _ _=>by show 0≤(0:Int)∧(0:Int)<256;omega,fun j hj=>by omega⟩⟩,hB⟩
 ·have hne:key≠⟨#[]⟩:=fun e=>h0 (by rw[e];rfl)
  rw[if_neg h0];have HA:=Hid.mk (hall h0);clear h0 hall;go_enter func141,ntmps141;go_wp2_with fail;refine(hF _ hTw).mono ?_;rintro e v1 ⟨rfl,hb1⟩
  go_wp2_with (first|(refine Ae rfl (Kh rfl (by rfl)) ?_)|(refine Sb (by rfl) ?_;intro v2 gm hb2;refine Hid.out ?_))
  have gH:HashAt v2 v1.heap.size Z 0 (fun _=>0) 0:=gm;have hB:=hb1.trans (hb2.mono hb1.size);have hz:=hb1.size;clear gm hb2 hb1;generalize v1.heap.size=b at *;have hsl:=AbF b;have hcp:=JK (h:=0) (m:=key.size) (dC:=64) 3 key gH (by omega);simp only[Ac6,Nat.sub_zero] at hcp;obtain⟨g3,o3⟩:=gH.setBk 0 key.size (txt key) (by omega);simp only[Ac6] at g3 o3
  replace g3:=g3.congr (B':=fun j=>txt all j) (fun j hj=>by
   rw[HA.out j hj];unfold over
   by_cases e:0≤j∧j<0+key.size
   ·rw[if_pos e,Nat.sub_zero]
   ·rw[if_neg e,Gd key j (by omega)])
  have hch:=g3.held;have hcf:=g3.free 73;have g4:=g3.setHeld 64;replace hB:=(hB.trans (o3.below hz)).trans ((only_set (w:=v2.setCells b 9 (AC .u8 key.size (txt key))) (g:=b) (i:=73) (v:=.int .i64 64)).below hz);clear o3 gH;have hned:decide (key=⟨#[]⟩)=false:=decide_eq_false hne;refine Hid.mk ?_
  go_wp2_with (refine Ae rfl (FH rfl (by rfl) (by rfl) hne) ?_)
  generalize v2.setCells b 9 (AC .u8 key.size (txt key))=v3 at *;go_wp2_with fail
  go_ret
  exact⟨b,hz,rfl,⟨0,64,fun j=>txt all j,rfl,by omega,fun _=>rfl,⟨g4,fun j _=>Bn _ _,fun j _=>by rw[Nat.mul_zero,Acl]⟩⟩,hB⟩
theorem LY(v:Value)(cnt:Nat)(ts:Nat→ByteArray)(w:World)(hTw:Tabs w)(hv:Strs w v cnt ts)(hcn:cnt<4611686018427387904)(hsz:(AY ts cnt).size≤1152921504606846976):Calls prog 107 #[v] w fun e w'=>e=.returned (.agg (WA .u8 32 (BJ (AY ts cnt))))∧Below w.heap.size w w':=by
 have g0:ArrAt (w.alloc (.cells (WA .u8 32 fun _=>0) 22)) w.heap.size .u8 22 32 (fun _=>0):=heap_alloc_new w _;have hB:Below w.heap.size w (w.alloc (.cells (WA .u8 32 fun _=>0) 22)):=(Below.refl _ w).alloc (Acg _) _;have hw0:=Vr (size:=32) (kl:=0) (by omega) (by omega);have h2:=hTw.two;have hbg:=fun w hT=>Nh 32 ⟨#[]⟩ (AY ts cnt) w hT (by omega) (by show (0:Nat)≤64;omega) (fun h=>absurd rfl h)
 rw[if_pos (show (⟨#[]⟩:ByteArray).size=0 from rfl)] at hbg;have HAL:Hid (∀o,Tabs (w.alloc o)):=Hid.mk (fun o=>hTw.alloc o);go_enter func107,ntmps107;go_wp2_with fail;refine(hbg _ (HAL.out _)).mono ?_;rintro e v1 ⟨b,hb,rfl,hN,hb1⟩;have hz:w.heap.size+1≤b:=by simpa using hb
 have hT1:=(HAL.out _).kept hb1;replace g0:=g0.kept hb1;replace hB:=hB.trans (hb1.mono hB.size);have hv1:∀w',Touch (fun x=>x=b) v1 w'→Strs w' v cnt ts:=fun w' ht=>hv.kept (fun k hk=>(ht.block k (by have:=hB.size;omega) (by omega)).trans (hB.block k hk))
 clear hb1 hb hbg;go_wp2_with fail;refine(LX b (AY ts cnt) _ 0 v cnt ts v1 hT1 (by omega) hN hw0 hsz hv1 hcn (by omega) (fun j _=>by rw[Acl])).mono ?_;rintro e v2 ⟨rfl,hN2,ht2⟩;rw[Acl] at hN2;have hT2:=hT1.touch ht2 (by omega);replace g0:=g0.touch ht2 (by omega);replace hB:=AU hB ht2 (by omega) (Acg _);clear ht2 hN hv1 hT1;go_wp2_with fail;refine(Sa b (AY ts cnt) _ v2 hT2 (by omega) hN2 hw0 hsz).mono ?_;rintro e v3 ⟨rfl,ht3⟩;replace g0:=g0.touch ht3 (by omega);replace hB:=AU hB ht3 (by omega) (Acg _);clear ht3 hN2 hT2
 go_wp2_with (refine A1 Af g0 (by rfl) (by rfl) ?_;intro v4 g4 o4;refine Hid.out ?_)
 refine Hid.mk ?_;go_wp2_with fail;exact bodyPost_ret (AE results107 Af g4 (by rfl)) rfl ⟨rfl,hB.trans (o4.below (Acg _))⟩
theorem Ol(args:Array Value)(w:World):(callFunc 206 args).run prog w=.ok (.enter 206 args) w:=by kernel_rfl
theorem Xu(b:Nat)(w:World):(Instr.sliceAt 183 (.pointer (some ⟨b,0,none⟩)) none none none).run prog w=.ok (.slice (some ⟨b,0,none⟩) 64 64) w:=by simp[go_sem]
theorem AbG{w:World}{b:Nat}{s:ByteArray}(h:ContOK (fun ob=>ob=.cells #[.string s] 9 (0,0)) w b):Strs w (.slice (some ⟨b,0,none⟩) 1 1) 1 (FJ s):=by
 obtain⟨ob,hg,rfl⟩:=h;exact ZG hg
theorem Xv(t:ByteArray)(j:Nat):0≤BJ t j∧BJ t j<256:=Ie _ j
theorem P4(key:ByteArray)(w:World)(hTw:Tabs w)(hk:key.size≤1152921504606846976):Calls prog 205 #[.string key] w fun e w'=>e=.returned (.agg (WA .u8 64 (txt (Er key))))∧Below w.heap.size w w':=by
 have g0:ArrAt ((w.alloc (.cells (WA .u8 64 fun _=>0) 183)).alloc (.cells (WA .u8 64 fun _=>0) 183)) w.heap.size .u8 183 64 (fun _=>0):=heap_alloc2_old w _ _;have g1:ArrAt ((w.alloc (.cells (WA .u8 64 fun _=>0) 183)).alloc (.cells (WA .u8 64 fun _=>0) 183)) (w.heap.size+1) .u8 183 64 (fun _=>0):=heap_alloc2_new w _ _;have hB:Below w.heap.size w ((w.alloc (.cells (WA .u8 64 fun _=>0) 183)).alloc (.cells (WA .u8 64 fun _=>0) 183)):=((Below.refl _ w).alloc (by simp) _).alloc (by simp) _;have h2:=hTw.two
 by_cases h64:64<key.size
 ·have hI:(64:Int)<(key.size:Int):=by omega
  have HK:Hid (Er key=mkS 32 (BJ key)):=Hid.mk (by unfold Er;rw[if_pos h64]);have HTB:Hid (∀u,Below w.heap.size w u→Tabs u):=Hid.mk (fun u hu=>hTw.below hu h2);go_enter func205,ntmps205
  go_wp2_with (refine Gz (by rfl) ?_;intro v1 s1 hb1 hz1;refine Hid.out ?_)
  replace g0:=g0.kept hb1;replace g1:=g1.kept hb1;replace hB:=hB.trans (hb1.mono hB.size);clear hb1 hz1;replace s1:Strs v1 (.slice (some ⟨w.heap.size+1+1,0,none⟩) 1 1) 1 (FJ key):=by simpa using s1
  refine Hid.mk ?_;go_wp2_with fail;refine(LY _ 1 (FJ key) v1 (HTB.out _ hB) s1 (by omega) (by rw[Gy];exact hk)).mono ?_;rintro e v2 ⟨rfl,hb2⟩;rw[Gy];replace g0:=g0.kept hb2;replace g1:=g1.kept hb2;replace hB:=hB.trans (hb2.mono hB.size);clear hb2 s1;have gn:=fun o (ho:o=Obj.cells (WA .u8 32 fun _=>0) 22 (0,0))=>(by rw[ho];exact heap_alloc_new v2 _:ArrAt (v2.alloc o) v2.heap.size .u8 22 32 (fun _=>0))
  have HBS:=Hid.mk hB.size;have hz:=g1.lt
  go_wp2_with (refine A1 Af (gn _ rfl) (by rfl) (by rfl) ?_;intro v4 gs o4;refine Hid.out ?_)
  replace hB:=(hB.alloc HBS.out _).trans (o4.below HBS.out);replace g0:=(g0.alloc _).only o4 (by omega);replace g1:=(g1.alloc _).only o4 (by omega);clear o4 gn HBS;generalize v2.heap.size=bs at *;refine Hid.mk ?_;go_wp2_with fail;refine AJ (fun v=>ArrAt v (w.heap.size+1) .u8 183 64 (fun _=>0)∧ArrAt v w.heap.size .u8 183 64 (fun _=>0)∧ArrAt v bs .u8 22 32 (BJ key)∧Below w.heap.size w v) ⟨g1,g0,gs,hB⟩ ?_;clear g1 g0 gs hB;rintro v0 ⟨g1,g0,gs,hB⟩;refine Ai (Below w.heap.size w) v0.heap.size
   [((w.heap.size+1),once (WA .u8 64 (fun _=>0)) 183 2 (WA .u8 64 (over (fun _=>0) 0 32 (BJ key)))),(w.heap.size,AQ (WA .u8 64 (fun _=>0)) 183),(bs,AQ (WA .u8 32 (BJ key)) 22)]
   [kv (.slice (some ⟨(w.heap.size+1),0,none⟩) 64 64),kv (.slice (some ⟨bs,0,none⟩) 32 32),.val fun _=>True]
   [.none,.none,.base 0 1]
   [some 11,some 12,some 13]
   [(3,.pointer (some ⟨(w.heap.size+1),0,none⟩)),(4,.pointer (some ⟨bs,0,none⟩))]
   [[],[],[.slot 0,.slot 1,.base 0 0,.base 2 0]]
   [.base 0 1,.base 1 0] [11,12,13]
   rfl (by kernel_rfl) ⟨rfl,rfl,trivial⟩ (Below.drew hB) (Acg _) ⟨⟨g1.lt,Al g1⟩,⟨g0.lt,Al g0⟩,⟨gs.lt,Al gs⟩,trivial⟩ ⟨⟨(show ((w.heap.size+1):Nat)≠w.heap.size from by omega),(show ((w.heap.size+1):Nat)≠bs from by omega),trivial⟩,⟨trivial,trivial⟩,trivial,trivial⟩ (A8 hB.size ⟨by omega,by omega,by omega,trivial⟩)
   ⟨
    (fun _ _ ww _ _ _ fr _=>sV (Ci (v:=.pointer (some ⟨(w.heap.size+1),0,none⟩)) rfl fr.1 (Xu (w.heap.size+1) ww))),
    (fun _ _ ww _ _ _ fr _=>sV (Ci (v:=.pointer (some ⟨bs,0,none⟩)) rfl fr.2.1 (M2 bs ww))),
    sL fun _ k=>.inl ⟨trivial,fun K hK=>EH rfl k.1 k.2.1 (Ak k.2.2.1) (m:=32) rfl (by omega) (r:=BJ key) (fun q hq=>by rw[Acl];exact ArrAt.cell (Ak k.2.2.2.1) q (by omega)) (fun w2 hg ho=>hK _ _ ⟨⟨Ag ho,Al hg⟩,trivial⟩)⟩,
    trivial⟩ ?_
  intro vs own v6 hB6 hs6 kn inj;clear inj hs6 g1 g0 gs hB;have g1:ArrAt v6 (w.heap.size+1) .u8 183 64 (over (fun _=>0) 0 32 (BJ key)):=Ak kn.1;have g0:ArrAt v6 w.heap.size .u8 183 64 (fun _=>0):=Ak kn.2.1;clear kn;simp only[Am,Act.put,Aci,Acj,Ach]
  replace g1:=g1.congr (s':=txt (mkS 32 (BJ key))) (fun j hj=>by
   unfold over
   by_cases e:0≤j∧j<0+32
   ·rw[if_pos e,Nat.sub_zero,I4 (Xv key j) (by omega)]
   ·rw[if_neg e,Gd _ j (by rw[Ar];omega)])
  rw[←HK.out] at g1
  go_wp2_with (first|(refine Aq Gj g1 (by rfl) ?_)|(refine A1 Gj g0 (by rfl) (by rfl) ?_;intro v7 g7 o7;refine Hid.out ?_))
  refine Hid.mk ?_;go_wp2_with fail;exact bodyPost_ret (AE results205 Gj g7 (by rfl)) rfl ⟨rfl,hB6.trans (o7.below (Acg _))⟩
 ·have hI:¬(64:Int)<(key.size:Int):=by omega
  have HK:Hid (Er key=key):=Hid.mk (by unfold Er;rw[if_neg h64]);have hsl:=Xu (w.heap.size+1);go_enter func205,ntmps205;have HB8:Hid (∀j,j<key.size→0≤txt key j∧txt key j<256):=Hid.mk (fun j _=>Bn key j);have HKK:=Hid.mk (CE key)
  go_wp2_with (refine EL (m:=key.size) (r:=txt key) (by rfl) (by show Value.string key=_;rw[HKK.out]) g1 HB8.out (by omega) (by omega) ?_;intro v4 g4 o4;refine Hid.out ?_)
  replace g0:=g0.only o4 (by omega);replace hB:=hB.trans (o4.below (by omega))
  replace g4:=g4.congr (s':=txt (Er key)) (fun j hj=>by
   rw[HK.out];unfold over
   by_cases e:0≤j∧j<0+key.size
   ·rw[if_pos e,Nat.sub_zero]
   ·rw[if_neg e,Gd _ j (by omega)])
  clear o4 g1;refine Hid.mk ?_
  go_wp2_with (first|(refine Aq Gj g4 (by rfl) ?_)|(refine A1 Gj g0 (by rfl) (by rfl) ?_;intro v7 g7 o7;refine Hid.out ?_))
  refine Hid.mk ?_;go_wp2_with fail;exact bodyPost_ret (AE results205 Gj g7 (by rfl)) rfl ⟨rfl,hB.trans (o7.below (Acg _))⟩
theorem H6(kb:Nat→Int)(c:Int)(v:Value)(cnt:Nat)(ts:Nat→ByteArray)(w:World)(hTw:Tabs w)(hkb:Byts 64 kb)(hc:0≤c∧c<256)(hv:Strs w v cnt ts)(hcn:cnt<4611686018427387904)(hsz:(AY ts cnt).size≤562949953421312):Calls prog 206 #[.agg (WA .u8 64 kb),.int .u8 c,v] w fun e w'=>e=.returned (.agg (WA .u8 32 (BJ (mkS 64 (fun i=>Ap (kb i) c)++AY ts cnt))))∧Below w.heap.size w w':=by
 have g0:ArrAt ((w.alloc (.cells (WA .u8 64 kb) 183)).alloc (.cells (WA .u8 32 fun _=>0) 22)) w.heap.size .u8 183 64 kb:=heap_alloc2_old w _ _;have g1:ArrAt ((w.alloc (.cells (WA .u8 64 kb) 183)).alloc (.cells (WA .u8 32 fun _=>0) 22)) (w.heap.size+1) .u8 22 32 (fun _=>0):=heap_alloc2_new w _ _;have hB:Below w.heap.size w ((w.alloc (.cells (WA .u8 64 kb) 183)).alloc (.cells (WA .u8 32 fun _=>0) 22)):=((Below.refl _ w).alloc (by simp) _).alloc (by simp) _;have h2:=hTw.two;have HTB:Hid (∀u,Below w.heap.size w u→Tabs u):=Hid.mk (fun u hu=>hTw.below hu h2);have HVB:Hid (∀u,Below w.heap.size w u→Strs u v cnt ts):=Hid.mk (fun u hu=>hv.below hu);have hw0:=Vr (size:=32) (kl:=0) (by omega) (by omega)
 have HX:Hid (∀j,0≤(fun i=>Ap (kb i) c) j∧(fun i=>Ap (kb i) c) j<256∨¬j<64):=Hid.mk (fun j=>by
  by_cases hj:j<64
  ·exact .inl (Nt (hkb j hj) hc)
  ·exact .inr hj)
 have HX8:Hid (∀j,j<64→bits .xor .u8 (kb j) c=(fun i=>Ap (kb i) c) j):=Hid.mk (fun j hj=>u8_xor _ _ (hkb j hj).1 (hkb j hj).2 hc.1 hc.2);generalize (fun i=>Ap (kb i) c)=X at *;clear hTw hv;go_enter func206,ntmps206;go_wp2_with fail
 go_loopg [9] 64 (fun gm iv v=>∃j:Nat,Hid (gm+j=64)∧iv=.int .i64 (j:Int)∧ArrAt v w.heap.size .u8 183 64 (ovr X kb j)∧ArrAt v (w.heap.size+1) .u8 22 32 (fun _=>0)∧Below w.heap.size w v)
 case atStart=>exact⟨0,Hid.mk rfl,rfl,by rw[LU];exact g0,g1,hB⟩
 case round =>
  clear g0 g1 hB;obtain⟨j,HJ,rfl,g0,g1,hB⟩:=hrel;have hj64:j≤64:=by have:=HJ.out;omega
  by_cases hj:j<64
  ·have c0:=g0.cell j hj
   rw[QQ] at c0;have f0:=g0.free j;have e0:=HX8.out j hj;have HG:=Hid.mk (g0.set j (X j) hj);rw[LT] at HG;go_wp2_with fail
   go_roundg (64-(j+1))
   case rel=>exact⟨j+1,Hid.mk (by omega),by go_num,HG.out,g1.other _ (by omega),Below.setCell hB (by simp) _⟩
   case measure=>have:=HJ.out;omega
  ·have hj2:j=64:=by omega
   subst hj2;clear hj hj64 HJ;replace g0:=g0.congr (s':=X) LV;have hbg:=fun w hT=>Nh 32 ⟨#[]⟩ (mkS 64 X++AY ts cnt) w hT (by omega) (by show (0:Nat)≤64;omega) (fun h=>absurd rfl h)
   rw[if_pos (show (⟨#[]⟩:ByteArray).size=0 from rfl)] at hbg;have has:(mkS 64 X++AY ts cnt).size=64+(AY ts cnt).size:=by rw[ByteArray.size_append,Ar]
   have HLO:Hid (∀j,j<64→txt (mkS 64 X++AY ts cnt) (0+j)=txt (mkS 64 X) j):=Hid.mk (fun j hj=>by rw[Acl,EI,Ar,if_pos hj]);have HHI:Hid (∀j,txt (mkS 64 X++AY ts cnt) (64+j)=txt (AY ts cnt) j):=Hid.mk (fun j=>by rw[EI,Ar,if_neg (by omega),Ac0]);have HEND:Hid (∀b w,Tabs w→3≤b→HashN w b (mkS 64 X++AY ts cnt) (h0F 32 0) (mkS 64 X++AY ts cnt).size→Calls prog 143 #[.pointer (some ⟨b,0,none⟩)] w fun e w'=>e=.returned (.agg (WA .u8 32 (BJ (mkS 64 X++AY ts cnt))))∧Touch (fun x=>x=b) w w'):=Hid.mk (fun b w hT hb hN=>Sa b _ _ w hT hb hN hw0 (by omega));generalize hga:mkS 64 X++AY ts cnt=all at *;have HGA:=Hid.mk hga;clear hga;have HAS:=Hid.mk has;clear has;go_wp2_with fail;refine(hbg _ (HTB.out _ hB)).mono ?_;rintro e v1 ⟨b,hb,rfl,hN,hb1⟩;have hlt:=g1.lt;have hbw:w.heap.size+1<b:=by omega
   replace g0:=g0.kept hb1;replace g1:=g1.kept hb1;replace hB:=hB.trans (hb1.mono hB.size);clear hb1 hbg hb hlt;have hcv:=AD 64 w.heap.size 64 v1 64 X g0.row (fun j hj=>(HX.out j).resolve_right (fun h=>h hj)) rfl;have hsl:=Xu w.heap.size
   go_wp2_with (refine Gz (by rfl) ?_;intro v2 s2 hb2 hz2;refine Hid.out ?_)
   replace g1:=g1.kept hb2;have hblt:=hN.lt;replace hN:=hN.kept hb2;replace hB:=hB.trans (hb2.mono hB.size);have hne:v1.heap.size≠b:=by omega
   have hv2:∀w',Touch (fun x=>x=b) v2 w'→Strs w' (.slice (some ⟨v1.heap.size,0,none⟩) 1 1) 1 (FJ (mkS 64 X)):=fun w' ht=>s2.touch (fun p n' c e=>by
    simp only[Value.slice.injEq,Option.some.injEq] at e;obtain⟨rfl,_,_⟩:=e;exact hne) ht
   clear hb2 hz2 g0 hcv hsl;refine Hid.mk ?_;go_wp2_with fail;refine(LX b all _ 0 _ 1 (FJ (mkS 64 X)) v2 (HTB.out _ hB) (by omega) hN hw0 (by have:=HAS.out;omega) hv2 (by omega) (by rw[Gy,Ar];have:=HAS.out;omega) (fun j hj=>by rw[Gy] at hj ⊢;rw[Ar] at hj;exact HLO.out j hj)).mono ?_;rintro e v3 ⟨rfl,hN3,ht3⟩;rw[Gy,Ar,Acl] at hN3;replace g1:=g1.touch ht3 (by omega);replace hB:=AU hB ht3 (by omega) (Acg _);clear ht3 hN hv2 s2 hne hblt;have hv3:∀w',Touch (fun x=>x=b) v3 w'→Strs w' v cnt ts:=fun w' ht=>HVB.out w' (AU hB ht (by omega) (Acg _))
   go_wp2_with fail;refine(LX b all _ 64 v cnt ts v3 (HTB.out _ hB) (by omega) hN3 hw0 (by have:=HAS.out;omega) hv3 hcn (by have:=HAS.out;omega) (fun j _=>HHI.out j)).mono ?_;rintro e v4 ⟨rfl,hN4,ht4⟩;rw[←HAS.out] at hN4;replace g1:=g1.touch ht4 (by omega);replace hB:=AU hB ht4 (by omega) (Acg _);clear ht4 hN3 hv3;go_wp2_with fail;refine(HEND.out b v4 (HTB.out _ hB) (by omega) hN4).mono ?_;rintro e v5 ⟨rfl,ht5⟩;replace g1:=g1.touch ht5 (by omega);replace hB:=AU hB ht5 (by omega) (Acg _);clear ht5 hN4
   go_wp2_with (refine A1 Af g1 (by rfl) (by rfl) ?_;intro v7 g7 o7;refine Hid.out ?_)
   refine Hid.mk ?_;go_wp2_with fail;exact bodyPost_ret (AE results206 Af g7 (by rfl)) rfl ⟨by rw[HGA.out],hB.trans (o7.below (by omega))⟩
theorem Sc(key:ByteArray)(v:Value)(cnt:Nat)(ts:Nat→ByteArray)(w:World)(hTw:Tabs w)(hk:key.size≤1152921504606846976)(hv:Strs w v cnt ts)(hcn:cnt<4611686018427387904)(hsz:(AY ts cnt).size≤562949953421312):Calls prog 180 #[.string key,v] w fun e w'=>e=.returned (.agg (WA .u8 32 (EM key (AY ts cnt))))∧Below w.heap.size w w':=by
 have g0:ArrAt (w.alloc (.cells (WA .u8 32 fun _=>0) 22)) w.heap.size .u8 22 32 (fun _=>0):=heap_alloc_new w _;have hB:Below w.heap.size w (w.alloc (.cells (WA .u8 32 fun _=>0) 22)):=(Below.refl _ w).alloc (Acg _) _;have h2:=hTw.two;have HT:Hid (∀u,Below w.heap.size w u→Tabs u):=Hid.mk (fun u hu=>hTw.below hu h2);have HVB:Hid (∀u,Below w.heap.size w u→Strs u v cnt ts):=Hid.mk (fun u hu=>hv.below hu);have HKB:Hid (Byts 64 (txt (Er key))):=Hid.mk (fun j _=>Bn _ _);have hS1:=fun u hT hv=>H6 (txt (Er key)) 54 v cnt ts u hT (fun j _=>Bn _ _) (by omega) hv hcn hsz
 have HXB:=Hid.mk (Xv (mkS 64 (BD (Er key) 54)++AY ts cnt));have HM:Hid (BJ (mkS 64 (BD (Er key) 92)++mkS 32 (BJ (mkS 64 (BD (Er key) 54)++AY ts cnt)))=EM key (AY ts cnt)):=Hid.mk rfl;change ∀u,Tabs u→Strs u v cnt ts→Calls prog 206 #[.agg (WA .u8 64 (txt (Er key))),.int .u8 54,v] u fun e w'=>e=.returned (.agg (WA .u8 32 (BJ (mkS 64 (BD (Er key) 54)++AY ts cnt))))∧Below u.heap.size u w' at hS1
 generalize BJ (mkS 64 (BD (Er key) 54)++AY ts cnt)=X at *
 have HSB:Hid (∀sv u,Tabs u→Strs u sv 1 (FJ (mkS 32 X))→Calls prog 206 #[.agg (WA .u8 64 (txt (Er key))),.int .u8 92,sv] u fun e w'=>e=.returned (.agg (WA .u8 32 (EM key (AY ts cnt))))∧Below u.heap.size u w'):=Hid.mk (fun sv u hT hs=>by
  have h:=H6 (txt (Er key)) 92 sv 1 (FJ (mkS 32 X)) u hT (fun j _=>Bn _ _) (by omega) hs (by omega) (by rw[Gy,Ar];omega);rw[Gy] at h;rw[←HM.out];exact h)
 go_enter func180,ntmps180;go_wp2_with fail;refine(P4 key _ (HT.out _ hB) hk).mono ?_;rintro e v1 ⟨rfl,hb1⟩;replace g0:=g0.kept hb1;replace hB:=hB.trans (hb1.mono hB.size);clear hb1;have gn:=fun o (ho:o=Obj.cells (WA .u8 64 fun _=>0) 183 (0,0))=>(by rw[ho];exact heap_alloc_new v1 _:ArrAt (v1.alloc o) v1.heap.size .u8 183 64 (fun _=>0))
 have HBS:=Hid.mk hB.size;have hz:=g0.lt
 go_wp2_with (refine A1 Gj (gn _ rfl) (by rfl) (by rfl) ?_;intro v2 g5 o2;refine Hid.out ?_)
 replace hB:=(hB.alloc HBS.out _).trans (o2.below HBS.out);replace g0:=(g0.alloc _).only o2 (by omega);clear o2 gn HBS;generalize v1.heap.size=b5 at *;refine Hid.mk ?_
 go_wp2_with (refine Aq Gj g5 (by rfl) ?_)
 refine(hS1 _ (HT.out _ hB) (HVB.out _ hB)).mono ?_;rintro e v3 ⟨rfl,hb3⟩;replace g0:=g0.kept hb3;replace g5:=g5.kept hb3;replace hB:=hB.trans (hb3.mono hB.size);clear hb3 hS1;have gn:=fun o (ho:o=Obj.cells (WA .u8 32 fun _=>0) 22 (0,0))=>(by rw[ho];exact heap_alloc_new v3 _:ArrAt (v3.alloc o) v3.heap.size .u8 22 32 (fun _=>0))
 have HBS:=Hid.mk hB.size;have hz5:=g5.lt
 go_wp2_with (refine A1 Af (gn _ rfl) (by rfl) (by rfl) ?_;intro v4 g6 o4;refine Hid.out ?_)
 replace hB:=(hB.alloc HBS.out _).trans (o4.below HBS.out);replace g0:=(g0.alloc _).only o4 (by omega);replace g5:=(g5.alloc _).only o4 (by omega);clear o4 gn HBS;generalize v3.heap.size=b6 at *;refine Hid.mk ?_;go_wp2_with fail;refine AJ (fun v=>ArrAt v w.heap.size .u8 22 32 (fun _=>0)∧ArrAt v b5 .u8 183 64 (txt (Er key))∧ArrAt v b6 .u8 22 32 X∧Below w.heap.size w v) ⟨g0,g5,g6,hB⟩ ?_;clear g0 g5 g6 hB;rintro v0 ⟨g0,g5,g6,hB⟩;refine Ai (Below w.heap.size w) v0.heap.size
  [(w.heap.size,once (WA .u8 32 (fun _=>0)) 22 5 (WA .u8 32 (EM key (AY ts cnt)))),(b5,AQ (WA .u8 64 (txt (Er key))) 183),(b6,AQ (WA .u8 32 X) 22)]
  [kv (.agg (WA .u8 64 (txt (Er key)))),kv (.slice (some ⟨b6,0,none⟩) 32 32),kv (.string (mkS 32 X)),.new (UF 1) ⟨fun ob=>ob=.cells #[.string (mkS 32 X)] 9 (0,0),[]⟩,kv (.agg (WA .u8 32 (EM key (AY ts cnt)))),.val fun _=>True]
  [.none,.none,.none,.none,.none,.base 0 1]
  [some 12,some 13,some 14,some 15,some 16,none]
  [(5,.pointer (some ⟨b5,0,none⟩)),(6,.pointer (some ⟨b6,0,none⟩)),(4,.pointer (some ⟨w.heap.size,0,none⟩))]
  [[.base 1 0],[],[.slot 1,.base 2 0],[.slot 2],[.slot 0,.slot 3,.cont 3 0],[.slot 4,.base 0 0]]
  [.base 0 1] [12,13,14,15,16]
  rfl (by kernel_rfl) ⟨rfl,rfl,rfl,trivial⟩ (Below.drew hB) (Acg _) ⟨⟨g0.lt,Al g0⟩,⟨g5.lt,Al g5⟩,⟨g6.lt,Al g6⟩,trivial⟩ ⟨⟨(show (w.heap.size:Nat)≠b5 from by omega),(show (w.heap.size:Nat)≠b6 from by omega),trivial⟩,⟨trivial,trivial⟩,trivial,trivial⟩ (A8 hB.size ⟨by omega,by omega,by omega,trivial⟩)
  ⟨
   sL fun f k=>sV (AA rfl Gj (Ak k.1) f.1),
   (fun _ _ ww _ _ _ fr _=>sV (Ci (v:=.pointer (some ⟨b6,0,none⟩)) rfl fr.2.1 (M2 b6 ww))),
   (fun _ _ ww _ _ _ _ kn=>sV (AF rfl kn.1 (AD 32 b6 32 ww 32 X (ArrAt.row (Ak kn.2.1)) (fun j _=>HXB.out j) rfl))),
   sL fun _ k=>.inl ⟨trivial,fun K hK=>XZ rfl k.1 (fun v hg hb=>hK _ _ ⟨Ac hb,_,Acg _,rfl,⟨_,hg,rfl⟩⟩)⟩,
   (fun _ _ ww _ hS _ _ kn=>.inl ⟨trivial,fun K hK=>AH Ol rfl (Gu kn.1 rfl kn.2.1.1) (HSB.out _ ww (HT.out ww hS) (AbG kn.2.2.1)) (fun w' hb=>hK _ _ ⟨Ac hb,rfl⟩)⟩),
   sL fun f k=>.inl ⟨trivial,fun K hK=>Bs rfl Af f.2.2.1 k.1 (Ak k.2.1) (fun w2 hg ho=>hK _ _ ⟨⟨Ag ho,Al hg⟩,trivial⟩)⟩,
   trivial⟩ ?_
 intro vs own v7 hB7 hs7 kn inj;clear inj hs7 g0 g5 g6 hB;have g0:ArrAt v7 w.heap.size .u8 22 32 (EM key (AY ts cnt)):=Ak kn.1;clear kn;simp only[Am,Act.put,Aci,Acj,Ach];go_wp2_with fail;exact bodyPost_ret (AE results180 Af g0 (by rfl)) rfl ⟨rfl,hB7⟩
theorem Uo(args:Array Value)(w:World):(callFunc 180 args).run prog w=.ok (.enter 180 args) w:=by kernel_rfl
theorem AaA{w:World}{b:Nat}{s t:ByteArray}(h:ContOK (fun ob=>ob=.cells #[.string s,.string t] 9 (0,0)) w b):Strs w (.slice (some ⟨b,0,none⟩) 2 2) 2 (Ib s t):=by
 obtain⟨ob,hg,rfl⟩:=h;exact ZH hg
theorem Up(n:Nat)(key:Nat→Int)(input:ByteArray)(w:World)(hTw:Tabs w)(hk:Byts 32 key)(h1:1≤n)(h8:n≤8)(hi:input.size≤140737488355328):Calls prog 148 #[.int .i64 (n:Int),.agg (WA .u8 32 key),.string input] w fun e w'=>∃v B,e=.returned (.tuple #[v,.int .i64 0])∧w.heap.size≤B∧w'.ownsRow B 22 32 v n (EN (chK (EM (mkS 32 key) input)) n)∧Below w.heap.size w w':=by
 have g0:ArrAt (w.alloc (.cells (WA .u8 32 key) 22)) w.heap.size .u8 22 32 key:=heap_alloc_new w _;have hB:Below w.heap.size w (w.alloc (.cells (WA .u8 32 key) 22)):=(Below.refl _ w).alloc (Acg _) _;have h2:=hTw.two;have HTW:Hid (∀u,Below w.heap.size w u→Tabs u):=Hid.mk (fun u hu=>hTw.below hu h2);have hM:=fun sv u hT hs=>Sc (mkS 32 key) sv 1 (FJ input) u hT (by rw[Ar];omega) hs (by omega) (by rw[Gy];omega)
 rw[Gy] at hM;have hcv:=AD 32 w.heap.size 32 _ 32 key g0.row (fun j hj=>hk j hj) rfl;have HZB:Hid (∀j,j<32→0≤EM (mkS 32 key) input j∧EM (mkS 32 key) input j<256):=Hid.mk (fun j _=>KO _ _ j);generalize EM (mkS 32 key) input=zz at *;go_enter func148,ntmps148
 go_wp2_with (refine Gz (by rfl) ?_;intro v1 s1 hb1 hz1;refine Hid.out ?_)
 replace hB:=hB.trans (hb1.mono hB.size);replace s1:Strs v1 (.slice (some ⟨w.heap.size+1,0,none⟩) 1 1) 1 (FJ input):=by simpa using s1
 clear hb1 hz1 g0 hcv;refine Hid.mk ?_;go_wp2_with fail;refine(hM _ _ (HTW.out _ hB) s1).mono ?_;rintro e v2 ⟨rfl,hb⟩;replace hB:=hB.trans (hb.mono hB.size);clear hb hM s1;have gn:=fun o (ho:o=Obj.cells (WA .u8 32 fun _=>0) 22 (0,0))=>(by rw[ho];exact heap_alloc_new v2 _:ArrAt (v2.alloc o) v2.heap.size .u8 22 32 (fun _=>0))
 have HBS:=Hid.mk hB.size
 go_wp2_with (refine A1 Af (gn _ rfl) (by rfl) (by rfl) ?_;intro v3 g8 o8;refine Hid.out ?_)
 replace hB:=(hB.alloc HBS.out _).trans (o8.below HBS.out);have hc8:w.heap.size≤v2.heap.size:=HBS.out;clear o8 gn HBS;generalize v2.heap.size=c8 at *;refine Hid.mk ?_;go_wp2_with fail
 go_loopg [9,10,25] n (fun gm ov lv iv v=>∃i p:Nat,Hid (gm+i=n)∧Hid (p=i+1)∧iv=.int .i64 (i:Int)∧lv=.string (Gn zz i)∧ArrAt v c8 .u8 22 32 zz∧v.ownsRow (c8+1) 22 32 ov i (EN (chK zz) i)∧Below w.heap.size w v)
 case atStart=>exact⟨0,1,Hid.mk rfl,Hid.mk rfl,rfl,rfl,g8,World.ownsRow_nil _ _ _ _,hB⟩
 case round =>
  clear g8 hB;obtain⟨i,p,HI,HP,rfl,rfl,g8,hO,hB⟩:=hrel;have hin:i≤n:=by have:=HI.out;omega
  by_cases hil:i<n
  ·have hilI:(i:Int)<(n:Int):=by omega
   have HMC:Hid (∀sv w,Tabs w→Strs w sv 2 (Ib (Gn zz i) (mkS 1 fun _=>(p:Int)%256))→Calls prog 180 #[.string (mkS 32 zz),sv] w fun e w'=>e=.returned (.agg (WA .u8 32 (chK zz i)))∧Below w.heap.size w w'):=Hid.mk (fun sv w hT hs=>by
    have h:=Sc (mkS 32 zz) sv 2 _ w hT (by rw[Ar];omega) hs (by omega) (by have:=J2 zz i;rw[Rn,ByteArray.size_append,Ar];omega);rw[Rn,HP.out] at h;exact h)
   go_wp2_with fail;refine AJ (fun v=>ArrAt v c8 .u8 22 32 (zz)∧v.ownsRow (c8+1) 22 32 u9 i (EN (chK zz) i)∧Below w.heap.size w v) ⟨g8,hO,hB⟩ ?_;clear g8 hO hB;rintro v0 ⟨g8,hO,hB⟩;have HG8:Hid (∀u,Below v0.heap.size v0 u→ArrAt u c8 .u8 22 32 zz):=Hid.mk (fun u hu=>g8.kept hu);have HT:Hid (∀u,Below v0.heap.size v0 u→Tabs u):=Hid.mk (fun u hu=>HTW.out u (hB.trans (hu.mono hB.size)));have HOB:Hid (∀q,v0.heap.size≤q→some q≠u9.ownBlock):=Hid.mk (fun q hq e=>by have:=(hO.lt q e.symm).2;omega);refine Ai (Below v0.heap.size v0) v0.heap.size
    ([]:List (Nat×Cont))
    [kv (.slice (some ⟨c8,0,none⟩) 32 32),kv (.string (mkS 32 zz)),kv (.string (Gn zz i)),kv (.int .i64 (i:Int)),kv (.int .i64 (p:Int)),kv (.int .u8 ((p:Int)%256)),ks 1 (WA .u8 1 fun _=>(p:Int)%256) 5,kv (.string (mkS 1 fun _=>(p:Int)%256)),.new (UF 2) ⟨fun ob=>ob=.cells #[.string (Gn zz i),.string (mkS 1 fun _=>(p:Int)%256)] 9 (0,0),[]⟩,kv (.agg (WA .u8 32 (chK zz i))),kp (WA .u8 32 fun _=>0) 22 11 (WA .u8 32 (chK zz i)),.val fun _=>True]
    [.none,.none,.none,.none,.none,.none,.none,.none,.none,.none,.none,.own 10 1]
    [some 28,some 29,some 30,some 31,some 32,some 33,some 34,some 35,some 36,some 37,some 12,none]
    [(8,.pointer (some ⟨c8,0,none⟩)),(10,.string (Gn zz i)),(11,.int .i64 (i:Int))]
    [[],[.slot 0],[],[],[.slot 3],[.slot 4],[.slot 5],[.slot 6,.cont 6 0],[.slot 2,.slot 7],[.slot 1,.slot 8,.cont 8 0],[],[.slot 10,.cont 10 0,.slot 9]]
    [.slot 10,.cont 10 1] [28,29,30,31,32,33,34,35,36,37,12]
    rfl (by kernel_rfl) ⟨rfl,rfl,rfl,trivial⟩ (Below.refl _ v0).drew (Acg _) trivial trivial (A8 (Acg _) trivial)
    ⟨
     (fun _ _ ww _ _ _ fr _=>sV (Ci (v:=.pointer (some ⟨c8,0,none⟩)) rfl fr.1 (M2 c8 ww))),
     (fun _ _ ww _ hS _ _ kn=>sV (AF rfl kn.1 (AD 32 c8 32 ww 32 _ (ArrAt.row (HG8.out ww hS)) HZB.out rfl))),
     sL fun f _=>sV (Ab rfl f.2.1),
     sL fun f _=>sV (Ab rfl f.2.2.1),
     sL fun _ k=>sV (BV (m:=i) (n:=1) rfl k.1 rfl HP.out.symm (by omega)),
     sL fun _ k=>sV (AF rfl k.1 (Ky _ _)),
     sL fun _ k=>.inl ⟨trivial,fun K hK=>R3 rfl k.1 (fun v hg hb=>hK _ _ ⟨Ac hb,_,Acg _,rfl,Al hg⟩)⟩,
     (fun _ _ ww _ _ _ _ kn=>sV (AF rfl kn.1.1 (AD 1 _ 1 ww 1 _ (ArrAt.row (Ak kn.2.1)) (fun j _=>by omega) rfl))),
     sL fun _ k=>.inl ⟨trivial,fun K hK=>Ya rfl k.1 k.2.1 (fun v hg hb=>hK _ _ ⟨Ac hb,_,Acg _,rfl,⟨_,hg,rfl⟩⟩)⟩,
     (fun _ _ ww _ hS _ _ kn=>.inl ⟨trivial,fun K hK=>AH Uo rfl (CT kn.1 kn.2.1.1) (HMC.out _ ww (HT.out ww hS) (AaA kn.2.2.1)) (fun w' hb=>hK _ _ ⟨Ac hb,rfl⟩)⟩),
     sL fun _ _=>.inl ⟨trivial,fun K hK=>Bi Ju rfl (fun w' hb hg=>hK _ _ ⟨Ac hb,_,Acg _,rfl,Al hg⟩)⟩,
     sL fun _ k=>.inl ⟨trivial,fun K hK=>Bs rfl Af k.1.1 k.2.2.1 (Ak k.2.1) (fun w2 hg ho=>hK _ _ ⟨Ag ho,Al hg,trivial⟩)⟩,
     trivial⟩ ?_
   intro vs own v5 hB5 hs5 kn inj;clear inj hs5;replace g8:=g8.kept hB5;replace hO:=He hO hB5;replace hB:=hB.trans (hB5.mono hB.size);obtain⟨e12,hb12,_⟩:=kn.1;change vs 12=_ at e12;have gC:ArrAt v5 (own 10) .u8 22 32 (chK zz i):=Ak kn.2.1;clear kn hB5;simp only[Am,Act.put,Aci,Acj,Ach,e12];generalize own 10=c12 at *
   go_wp2_with (first|(refine Aq Af gC (by rfl) ?_)|(refine Vv (by rfl) ?_;intro v6 g6 hb6;refine Hid.out ?_))
   replace g8:=g8.kept hb6;replace gC:=gC.kept hb6;replace hO:=He hO hb6;replace hB:=hB.trans (hb6.mono hB.size);have HBS:=Hid.mk hB.size;clear hb6;refine Hid.mk ?_;have hz8:=g8.lt
   go_wp2_with (refine R4 (by rfl) (by rfl) hO g6 (by omega) (by have:=g8.lt;omega) ?_;intro vb v7 hO7 hb7 hk7;refine Hid.out ?_)
   have gC7:ArrAt v7 c12 .u8 22 32 (chK zz i):=gC.block (hk7 c12 gC.lt (HOB.out c12 hb12));have g87:=g8.below hb7 (by omega);have hB7:=hB.trans (hb7.mono (by omega));have hcv:=AD 32 c12 32 v7 32 (chK zz i) gC7.row (fun j _=>KO _ _ j) rfl;have HLN:Hid (mkS 32 (chK zz i)=Gn zz (i+1)):=Hid.mk (J1 zz i).symm;clear hO hb7 hk7 gC g8 hB HG8 HOB g6 HMC HT;refine Hid.mk ?_;go_wp2_with fail;rw[HLN.out]
   go_roundg (n-(i+1))
   case rel=>exact⟨i+1,p+1,Hid.mk (by omega),Hid.mk (by have:=HP.out;omega),by go_num,rfl,g87,hO7,hB7⟩
   case measure=>have:=HI.out;omega
  ·have hi2:i=n:=by omega
   subst hi2;go_wp2_with fail;exact bodyPost_ret (v:=.tuple #[u9,.int .i64 0]) (Cq results148 (by rfl) (by rfl)) rfl ⟨u9,c8+1,rfl,by omega,hO,hB⟩
def gup(x:Int):Ending:=.panicked [{ v:=.iface 32 (.int .i64 x),recovered:=false }]
theorem Jg(x:Int)(w:World):Calls prog 98 #[.bool true,.int .i64 x] w fun e w'=>e=.returned (.tuple #[])∧w'=w:=by
 go_enter func98,ntmps98;go_wp2_with fail;exact bodyPost_end (results_none rfl _ _ _) rfl ⟨rfl,rfl⟩
theorem K7(x:Int)(w:World):Calls prog 98 #[.bool false,.int .i64 x] w fun e w'=>e=gup x∧w'=w:=by
 go_enter func98,ntmps98;go_wp2_with fail;exact⟨rfl,rfl,rfl⟩
theorem Xw(p:Addr)(x y:Int)(w:World)(hc:w.cell? p=some (.int .i64 y))(hz:w.frozen? p=false):CallsD prog 77 #[.pointer (some p)] (.panicking [{ v:=.iface 32 (.int .i64 x),recovered:=false }]) w fun e u' w' => e=.returned (.tuple #[])∧u'=.panicking [{ v:=.iface 32 (.int .i64 x),recovered:=true }]∧w'=w.setCell p (.int .i64 x):=by
 have hta:∀u,(Instr.typeAssert (.iface 32 (.int .i64 x)) 20 32 false).run prog u=.ok (.int .i64 x) u:=fun u=>by kernel_rfl
 refine callsD_of_wpS func77 rfl fun c₀ cs hu=>?_
 apply wpS_seq;apply wpS_region;simp[wpOpsS,go_sem,recoverD,hu,ntmps77,Exit.thenS];apply wpS_seq;apply wpS_region;simp[wpOpsS,go_sem,Exit.thenS];refine wpS_cond (t:=true) (by simp[Act.eval,Array.replicate]) ?_;simp only[if_true];apply wpS_region;simp[wpOpsS,go_sem,hta,hc,hz,bodyPostS,results,results77]
theorem QX(p:Addr)(w:World):CallsD prog 77 #[.pointer (some p)] .returning w fun e u' w'=>e=.returned (.tuple #[])∧u'=.returning∧w'=w:=by
 refine callsD_of_wpS func77 rfl fun c₀ cs hu=>?_
 apply wpS_seq;apply wpS_region;simp[wpOpsS,go_sem,recoverD,hu,ntmps77,Exit.thenS];apply wpS_seq;apply wpS_region;simp[wpOpsS,go_sem,Exit.thenS];refine wpS_cond (t:=false) (by simp[Act.eval,Array.replicate]) ?_;simp only[Bool.false_eq_true,if_false];refine wpS_of_wp (wp_skip ?_);cases c₀
 simp_all [bodyPostS,results,results77]
theorem Fk(k:FuncId)(cap:Array Value)(T:Nat→Prop)(R:Int→World→Prop)(w:World)(hk:∀args u,(callFunc k args).run prog u=.ok (.enter k args) u)(hT:∀x,T x→x<w.heap.size)(hc:∀u,Below w.heap.size w u→Calls prog k cap u fun e w'=>Touch T u w'∧∃x,((e=.returned (.tuple #[])∧x=0)∨e=gup x)∧R x w'):Calls prog 34 #[.func (.func k) #[] cap] w fun e w'=>∃x v,e=.returned (.int .i64 x)∧R x v∧Touch T w w'∧Below w.heap.size v w':=by
 have hmf:∀(fn:Fn) (first cap:Array Value) (w:World),(Instr.makeFunc fn first cap).run prog w=.ok (.func fn first cap) w:=fun _ _ _ _=>rfl
 have hB:Below w.heap.size w (w.alloc (.cells #[.int .i64 0] 32)):=(Below.refl _ w).alloc (Acg _) _;have hcell:(w.alloc (.cells #[.int .i64 0] 32)).heap[w.heap.size]?=some (.cells #[.int .i64 0] 32 (0,0)):=heap_alloc_new w _
 go_enter_defers func34,ntmps34
 go_wp2_with fail;refine(hc _ hB).mono ?_;rintro e v ⟨ht,x,hx,hR⟩;have hrow:v.heap[w.heap.size]?=some (.cells #[.int .i64 0] 32 (0,0)):=(ht.block w.heap.size (by simp) (fun h=>by have:=hT _ h;omega)).trans hcell;have c0:v.cell? ⟨w.heap.size,0,none⟩=some (.int .i64 0):=cell_of_row v _ 0 _ _ _ hrow;have z0:v.frozen? ⟨w.heap.size,0,none⟩=false:=frozen_of_row v _ 0 _ _ hrow
 have fin:∀u,Only w.heap.size v u→Touch T w u∧Below w.heap.size v u:=fun u o=>⟨⟨o.os.trans (ht.os.trans hB.os),o.tape.trans (ht.tape.trans hB.tape),o.output.trans (ht.output.trans hB.output),by have h1:=ht.size;have h2:=hB.size;have h3:=o.size;omega,
  fun k hk hn=>(o.block k (by omega)).trans ((ht.block k (by have:=hB.size;omega) hn).trans (hB.block k hk))⟩,o.below (Acg _)⟩
 clear hc hrow hcell hB ht hT hk
 rcases hx with ⟨rfl,rfl⟩ | rfl
 ·go_wp2_with fail
  refine leaves_cons (f:=77) (args:=#[.pointer (some ⟨w.heap.size,0,none⟩)]) (by simp) (by simp[go_sem]) ?_;refine(QX ⟨w.heap.size,0,none⟩ _).mono ?_;rintro e u' w'' ⟨rfl,rfl,rfl⟩;have c1:(v.setCell ⟨w.heap.size,0,none⟩ (.int .i64 0)).cell? ⟨w.heap.size,0,none⟩=some (.int .i64 0):=by simp[go_sem,c0]
  refine⟨.int .i64 0,by simp[results,results34,go_sem,c1],0,v,rfl,hR,(fin _ only_set).1,(fin _ only_set).2⟩
 ·refine leaves_cons (f:=77) (args:=#[.pointer (some ⟨w.heap.size,0,none⟩)]) (by simp) (by simp[go_sem]) ?_
  refine(Xw ⟨w.heap.size,0,none⟩ x 0 _ c0 z0).mono ?_;rintro e u' w'' ⟨rfl,rfl,rfl⟩;have c1:(v.setCell ⟨w.heap.size,0,none⟩ (.int .i64 x)).cell? ⟨w.heap.size,0,none⟩=some (.int .i64 x):=by simp[go_sem,c0]
  refine⟨.int .i64 x,by simp[results,results34,go_sem,c1],x,v,rfl,hR,(fin _ only_set).1,(fin _ only_set).2⟩
theorem Acb(n:Int)(i:Nat)(hi:i<4)(w:World):(binOp .shr 23 (.int .u32 n) (.int .i64 (8*(i:Int)))).run prog w=.ok (.int .u32 (n/256 ^ i)) w:=by
 match i,hi with
 | 0,_=>simp[go_sem]
 | 1,_=>simp[go_sem]
 | 2,_=>simp[go_sem]
 | 3,_=>simp[go_sem]
theorem Uq{a:Act}{o:Oper}{w:World}{x y:Operand}(ho:o.op=.binOp .shr 23 x y 3){n:Int}{i:Nat}(hx:a.eval x=.int .u32 n)(hy:a.eval y=.int .i64 (8*(i:Int)))(hi:i<4):(execOp a.eval o).run prog w=.ok (.value (.int .u32 (n/256 ^ i))) w:=CM ho hx hy rfl (Acb n i hi w)
theorem Ki(n:Int)(w:World):Calls prog 122 #[.int .u32 n] w fun e w'=>e=.returned (.string (mkS 4 (AM n)))∧Below w.heap.size w w':=by
 have g1:ArrAt (w.alloc (.cells (WA .u8 4 fun _=>0) 179)) w.heap.size .u8 179 4 (fun _=>0):=heap_alloc_new w _;have hB:Below w.heap.size w (w.alloc (.cells (WA .u8 4 fun _=>0) 179)):=(Below.refl _ w).alloc (by simp) _;go_enter func122,ntmps122;go_wp2_with fail
 go_loopg [5] 4 (fun gm iv v=>∃i:Nat,Hid (gm+i=4)∧iv=.int .i64 (i:Int)∧ArrAt v w.heap.size .u8 179 4 (fun j=>if j<i then AM n j else 0)∧Below w.heap.size w v)
 case atStart=>exact⟨0,Hid.mk rfl,rfl,g1.congr (fun j _=>by rw[if_neg (by omega)]),hB⟩
 case round =>
  clear g1 hB;obtain⟨i,HI,rfl,g1,hB⟩:=hrel;have hi8:i≤4:=by have:=HI.out;omega
  by_cases hil:i<4
  ·have c0:=g1.cell i hil
   have f0:=g1.free i
   have g2:=Hid.mk ((g1.set i (n/256 ^ i%256) hil).congr (s':=fun j=>if j<i+1 then AM n j else 0) (fun j _=>by
    unfold upd
    by_cases e:j=i
    ·subst e;rw[if_pos rfl,if_pos (by omega)];rfl
    ·rw[if_neg e]
     show (if j<i then AM n j else 0)=_
     by_cases h:j<i
     ·rw[if_pos h,if_pos (by omega)]
     ·rw[if_neg h,if_neg (by omega)]))
   go_wp2_with (refine Ae rfl (Uq rfl (by rfl) (by rfl) hil) ?_)
   generalize n/256 ^ i=q at *;go_wp2_with fail
   go_roundg (4-(i+1))
   case rel=>exact⟨i+1,Hid.mk (by omega),by go_num,g2.out,Below.setCell (p:=⟨w.heap.size,i,none⟩) hB (by simp) _⟩
   case measure=>have:=HI.out;omega
  ·have hi2:i=4:=by omega
   subst hi2;replace g1:=g1.congr (s':=AM n) (fun j hj=>by rw[if_pos hj]);have hcv:=AD 4 w.heap.size 4 _ 4 (AM n) g1.row (fun j _=>Ej n j) rfl;go_wp2_with fail
   go_ret
   exact⟨rfl,hB⟩
def CR(m:ByteArray)(p:Nat):Nat→Int
 | 0=>0
 | i+1=>CR m p i+txt m (p+i)*256 ^ i
theorem Xx(m:ByteArray)(p:Nat):∀i,0≤CR m p i∧CR m p i<256 ^ i
 | 0=>by unfold CR;omega
 | i+1=>by
  have ih:=Xx m p i;have h:=Bn m (p+i);have hp:(0:Int)<256 ^ i:=Int.pow_pos (by omega);have h1:0≤txt m (p+i)*256 ^ i:=Int.mul_nonneg h.1 (by omega);have h2:txt m (p+i)*256 ^ i≤255*256 ^ i:=AcT (by omega) (by omega);unfold CR;rw[Acr];omega
theorem Acc(x:Int)(i:Nat)(hx:0≤x∧x<256)(hi:i<4)(w:World):(binOp .shl 23 (.int .u32 x) (.int .i64 (8*(i:Int)))).run prog w=.ok (.int .u32 (x*256 ^ i)) w:=by
 match i,hi with
 | 0,_=>simp[go_sem,IntKind.wrap_u32];omega
 | 1,_=>simp[go_sem,IntKind.wrap_u32];omega
 | 2,_=>simp[go_sem,IntKind.wrap_u32];omega
 | 3,_=>simp[go_sem,IntKind.wrap_u32];omega
theorem Ur{a:Act}{o:Oper}{w:World}{x y:Operand}(ho:o.op=.binOp .shl 23 x y 3){n:Int}{i:Nat}(hx:a.eval x=.int .u32 n)(hy:a.eval y=.int .i64 (8*(i:Int)))(hn:0≤n∧n<256)(hi:i<4):(execOp a.eval o).run prog w=.ok (.value (.int .u32 (n*256 ^ i))) w:=CM ho hx hy rfl (Acc n i hn hi w)
theorem Acd(a x:Int)(i:Nat)(ha:0≤a∧a<256 ^ i)(hx:0≤x∧x<256)(hi:i<4):bits .or .u32 a (x*256 ^ i)=a+x*256 ^ i:=by
 match i,hi with
 | 0,_=>exact EF a x 0 (256 ^ 0) rfl ha.1 (by omega) (by omega) hx.1 (by omega)
 | 1,_=>exact EF a x 8 (256 ^ 1) rfl ha.1 (by omega) (by omega) hx.1 (by omega)
 | 2,_=>exact EF a x 16 (256 ^ 2) rfl ha.1 (by omega) (by omega) hx.1 (by omega)
 | 3,_=>exact EF a x 24 (256 ^ 3) rfl ha.1 (by omega) (by omega) hx.1 (by omega)
theorem Xy{a:Act}{o:Oper}{w:World}{x y:Operand}(ho:o.op=.binOp .or 23 x y 23){m n:Int}{i:Nat}(hx:a.eval x=.int .u32 m)(hy:a.eval y=.int .u32 (n*256 ^ i))(hm:0≤m∧m<256 ^ i)(hn:0≤n∧n<256)(hi:i<4):(execOp a.eval o).run prog w=.ok (.value (.int .u32 (m+n*256 ^ i))) w:=by
 have h:=Acd m n i hm hn hi;exact CM ho hx hy rfl (by rw[←h];simp[go_sem])
theorem Ge(m:ByteArray)(p:Nat)(w:World)(hp:p+4≤m.size)(hq:p≤1000):Calls prog 112 #[.string m,.int .i64 (p:Int)] w fun e w'=>e=.returned (.int .u32 (CR m p 4))∧w'=w:=by
 go_enter func112,ntmps112;go_wp2_with fail
 go_loopg [5,7] 4 (fun gm av iv v=>∃i:Nat,Hid (gm+i=4)∧iv=.int .i64 (i:Int)∧av=.int .u32 (CR m p i)∧v=w)
 case atStart=>exact⟨0,Hid.mk rfl,rfl,rfl,rfl⟩
 case round =>
  obtain⟨i,HI,rfl,rfl,rfl⟩:=hrel;have hi8:i≤4:=by have:=HI.out;omega
  by_cases hil:i<4
  ·have hA:=Xx m p i
   have hT:=Bn m (p+i);have HN:Hid (CR m p i+txt m (p+i)*256 ^ i=CR m p (i+1)):=Hid.mk rfl;have HX:Hid (p+i<m.size):=Hid.mk (by omega)
   go_wp2_with (first|(refine Ae rfl (Gx (j:=p+i) rfl (by rfl) (by show Value.int .i64 _=_;congr 1) HX.out) ?_)|(refine Ae rfl (Ur (i:=i) rfl (by rfl) (by rfl) hT hil) ?_)|(refine Ae rfl (Xy rfl (by rfl) (by rfl) hA hT hil) ?_))
   rw[HN.out]
   go_roundg (4-(i+1))
   case rel=>exact⟨i+1,Hid.mk (by omega),by go_num,rfl,rfl⟩
   case measure=>have:=HI.out;omega
  ·have hi2:i=4:=by omega
   subst hi2;go_wp2_with fail
   go_ret
   exact⟨rfl,rfl⟩
theorem LZ{ops:Array Oper}{rest:List Oper}{d:Option Tmp}{x:Operand}{ty:TypeId}{ps:String}{af:Array Edge}{a:Act}{w:World}{Q:Exit→Act→World→Prop}{s:ByteArray}{n:Nat}(hx:a.eval x=.string s)(hn:s.size=n)(h:∀w' cp,RowAt w' w.heap.size .u8 5 n (txt s)→Below w.heap.size w w'→wpList prog ops Q rest (a.put d (.slice (some ⟨w.heap.size,0,none⟩) n cp)) w'):wpList prog ops Q ({ dst:=d,op:=.convert 9 81 x,type:=ty,pos:=ps,after:=af,guard:=none }::rest) a w:=by
 subst hn;obtain⟨cp,v,hr,hR,hb⟩:=KH s w;refine CZ rfl ?_;unfold Oper.wp execOp;simp only[hx,Sem.run_bind,hr,Result.andThen_ok,Sem.run_pure,Oper.upon];exact h v cp hR hb
theorem E7{o:Oper}{a:Act}{w:World}{K:Act→World→Prop}{Q:Exit→Act→World→Prop}{x:Operand}(ho:o.op=.convert 9 81 x){s:ByteArray}{n:Nat}(hx:a.eval x=.string s)(hn:s.size=n)(h:∀w' cp,RowAt w' w.heap.size .u8 5 n (txt s)→Below w.heap.size w w'→K (a.put o.dst (.slice (some ⟨w.heap.size,0,none⟩) n cp)) w'):o.wp prog a w K Q:=by
 subst hn;obtain⟨cp,v,hr,hR,hb⟩:=KH s w;unfold Oper.wp execOp;simp only[ho,hx,Sem.run_bind,hr,Result.andThen_ok,Sem.run_pure,Oper.upon];exact h v cp hR hb
theorem Ma{a:Act}{o:Oper}{w:World}{x:Operand}{t:TypeId}(ho:o.op=.sliceToArrayPointer t x){v r:Value}(hx:a.eval x=v)(hr:(Instr.arrayAt t v).run prog w=.ok r w):(execOp a.eval o).run prog w=.ok (.value r) w:=by
 unfold execOp;simp[ho,hx,hr]
theorem AbH(b cap:Nat)(w:World):(Instr.arrayAt 22 (.slice (some ⟨b,0,none⟩) 32 cap)).run prog w=.ok (.pointer (some ⟨b,0,none⟩)) w:=by simp[go_sem,Instr.arrayAt]
theorem ZQ(b cap:Nat)(w:World):(Instr.arrayAt 26 (.slice (some ⟨b,0,none⟩) 12 cap)).run prog w=.ok (.pointer (some ⟨b,0,none⟩)) w:=by simp[go_sem,Instr.arrayAt]
theorem JL{w:World}{b n:Nat}{t:TypeId}{s:Nat→Int}(h:RowAt w b .u8 t n s):w.rangeAt b 0 (AC .u8 n s):=fun j v hv=>by
 obtain⟨hj,rfl⟩:=B6 hv;rw[Acl];exact h.cell j hj
theorem Mb{a:Act}{o:Oper}{w:World}{x y z:Operand}{t:TypeId}(ho:o.op=.slice t x (some y) (some z) none){v u r s:Value}(hx:a.eval x=v)(hy:a.eval y=u)(hz:a.eval z=r)(hr:(Instr.sliceAt t v (some u) (some r) none).run prog w=.ok s w):(execOp a.eval o).run prog w=.ok (.value s) w:=by
 unfold execOp;simp only[ho,hx,hy,hz,Option.map,Sem.run_bind,hr,Result.andThen_ok,Sem.run_pure]
theorem AaB(s:ByteArray)(l n:Nat)(w:World)(h1:l≤n)(h:n≤s.size):(Instr.sliceAt 9 (.string s) (some (.int .i64 (l:Int))) (some (.int .i64 (n:Int))) none).run prog w=.ok (.string (s.extract l n)) w:=by
 have h2:(l:Int)≤(n:Int):=by omega
 have h3:(n:Int)≤(s.size:Int):=by omega
 simp[go_sem,h2,h3]
theorem Hn(m:ByteArray)(p:Nat)(w:World)(hp:p+32≤m.size)(hq:p≤1000):Calls prog 88 #[.string m,.int .i64 (p:Int)] w fun e w'=>e=.returned (.agg (WA .u8 32 (txt (m.extract p (p+32)))))∧Below w.heap.size w w':=by
 have g0:ArrAt (w.alloc (.cells (WA .u8 32 fun _=>0) 22)) w.heap.size .u8 22 32 (fun _=>0):=heap_alloc_new w _;have hB:Below w.heap.size w (w.alloc (.cells (WA .u8 32 fun _=>0) 22)):=(Below.refl _ w).alloc (by simp) _;have HSL:Hid (∀u:World,(Instr.sliceAt 9 (.string m) (some (.int .i64 (p:Int))) (some (.int .i64 ((p:Int)+32))) none).run prog u=.ok (.string (m.extract p (p+32))) u):=Hid.mk (fun u=>AaB m p (p+32) u (by omega) hp);have HE:Hid ((m.extract p (p+32)).size=32):=Hid.mk (by rw[ByteArray.size_extract];omega);generalize m.extract p (p+32)=e at *;clear hp;go_enter func88,ntmps88
 go_wp2_with (first|(refine Ae rfl (Mb (v:=.string m) (u:=.int .i64 (p:Int)) (r:=.int .i64 ((p:Int)+32)) rfl (by rfl) (by rfl) (by rfl) (HSL.out _)) ?_)|(refine LZ (by rfl) HE.out ?_;intro v1 cp r1 hb1;refine Hid.out ?_))
 have e1:∀o,(w.alloc o).heap.size=w.heap.size+1:=fun o=>by simp
 rw[e1] at r1;replace g0:=g0.kept hb1;replace hB:=hB.trans (hb1.mono hB.size);have hr1:=JL r1;clear hb1 r1;refine Hid.mk ?_
 go_wp2_with (first|(refine Ae rfl (Ma rfl (by rfl) (AbH _ _ _)) ?_)|(refine Ae rfl (Ao rfl Af (by rfl) hr1) ?_)|(refine A1 Af g0 (by rfl) (by rfl) ?_;intro v7 g7 o7;refine Hid.out ?_))
 refine Hid.mk ?_;go_wp2_with fail;exact bodyPost_ret (AE results88 Af g7 (by rfl)) rfl ⟨rfl,hB.trans (o7.below (Acg _))⟩
theorem DK{T:Nat→Prop}{w w':World}(h:Below w.heap.size w w'):Touch T w w':=⟨h.os,h.tape,h.output,h.size,fun k hk _=>h.block k hk⟩
def Env(w:World):Prop:=Tabs w∧Fld.PrimeAt w
theorem Env.two{w:World}(h:Env w):3≤w.heap.size:=h.1.two
theorem Env.blk{w w':World}(h:Env w)(e:∀k,k<3→w'.heap[k]?=w.heap[k]?):Env w':=by
 have h0:=e 0 (by decide);exact⟨h.1.block (e _ (by decide)) (e _ (by decide)),⟨(World.cell?_of_block (w:=w) h0).trans h.2.1,(World.cell?_of_block (w:=w) h0).trans h.2.2.1,(World.cell?_of_block (w:=w) h0).trans h.2.2.2.1,(World.cell?_of_block (w:=w) h0).trans h.2.2.2.2⟩⟩
theorem Env.below{B:Nat}{w w':World}(h:Env w)(hb:Below B w w')(hB:3≤B):Env w':=h.blk (fun k hk=>hb.block k (by omega))
theorem Env.kept{w w':World}(h:Env w)(hb:Below w.heap.size w w'):Env w':=h.below hb h.two
theorem Env.touch{b:Nat}{w w':World}(h:Env w)(ht:Touch (fun x=>x=b) w w')(hb:3≤b):Env w':=h.blk (fun k hk=>ht.block k (by have:=h.two;omega) (by omega))
theorem Env.only{b:Nat}{w w':World}(h:Env w)(ht:Only b w w')(hb:3≤b):Env w':=h.blk (fun k hk=>ht.block k (by omega))
def AbI(cs:Array Value)(t:TypeId)(s:Nat)(cs':Array Value)(s2:Nat)(cs2:Array Value):Cont:=⟨Eo cs t,[(s,Eo cs' t),(s2,Eo cs2 t)]⟩
theorem F6(b off n:Nat)(w:World)(f:Nat→Int)(hf:Byts n f)(hr:w.rangeAt b off (AC .u8 n f)){cp:Nat}:(convert 81 9 (.slice (some ⟨b,off,none⟩) n cp)).run prog w=.ok (.string (mkS n f)) w:=by
 have h:=run_convert_bytes_back (P:=prog) w 81 9 5 ⟨b,off,none⟩ cp (Dw n f) underlying81 underlying5 underlying9 (fun j hj=>by
  rw[FG] at hj;rw[Addr.add_lit,hr j _ (BC .u8 n f hj)];have:=hf j hj;simp[Dw];omega)
 rw[FG] at h;exact h
theorem Sd(b o:Nat)(w:World):(Instr.sliceAt 22 (.pointer (some ⟨b,o,none⟩)) none none none).run prog w=.ok (.slice (some ⟨b,o,none⟩) 32 32) w:=by simp[go_sem]
def ktF(H C K:Nat→Int):Nat→Int:=cat 64 (cat 32 H C) K
def KtAt(w:World)(b:Nat)(H C K:Nat→Int):Prop:=ArrAt w b .u8 121 96 (ktF H C K)
section
variable {w w':World} {b:Nat} {H C K:Nat→Int}
theorem KtAt.lt(h:KtAt w b H C K):b<w.heap.size:=ArrAt.lt h
theorem KtAt.kept(h:KtAt w b H C K)(hb:Below w.heap.size w w'):KtAt w' b H C K:=ArrAt.kept h hb
theorem KtAt.block(h:KtAt w b H C K)(e:w'.heap[b]?=w.heap[b]?):KtAt w' b H C K:=ArrAt.block h e
theorem KtAt.only{g:Nat}(h:KtAt w b H C K)(o:Only g w w')(hg:b≠g):KtAt w' b H C K:=h.block (o.block b hg)
theorem KtAt.h(h:KtAt w b H C K):w.rangeAt b 0 (AC .u8 32 H):=fun j v hj=>by
 obtain⟨hj2,rfl⟩:=B6 hj;rw[Acl,ArrAt.cell h j (by omega)];unfold ktF cat;rw[if_pos (by omega),if_pos hj2]
theorem KtAt.c(h:KtAt w b H C K):w.rangeAt b 32 (AC .u8 32 C):=fun j v hj=>by
 obtain⟨hj2,rfl⟩:=B6 hj;rw[ArrAt.cell h (32+j) (by omega)];unfold ktF cat;rw[if_pos (by omega),if_neg (by omega),Ac0]
theorem KtAt.k(h:KtAt w b H C K):w.rangeAt b 64 (AC .u8 32 K):=fun j v hj=>by
 obtain⟨hj2,rfl⟩:=B6 hj;rw[ArrAt.cell h (64+j) (by omega)];unfold ktF cat;rw[if_neg (by omega),Ac0]
theorem KtAt.part{o m:Nat}{r:Nat→Int}(h:KtAt w b H C K)(hm:o+m≤96):ArrAt (w.setCells b o (AC .u8 m r)) b .u8 121 96 (over (ktF H C K) o m r)∧Only b w (w.setCells b o (AC .u8 m r)):=by
 obtain⟨C',h1,h2,h3,h4,h5⟩:=BE (AC .u8 m r) o w _ h (by rw[A3,A5];exact hm);rw[A3] at h3 h4;rw[A5] at h2
 have e:C'=WA .u8 96 (over (ktF H C K) o m r):=Gv h2 (fun i hi=>by
  unfold over
  by_cases h:o≤i∧i<o+m
  ·rw[if_pos h]
   have:=h3 (i-o) (by omega);rw[show o+(i-o)=i by omega] at this;rw[this,BC .u8 m r (by omega)]
  ·rw[if_neg h,h4 i (by omega),Ei .u8 96 _ i hi])
 exact⟨by unfold ArrAt;rw[h1,e],h5⟩
theorem KtAt.setH(h:KtAt w b H C K)(X:Nat→Int):KtAt (w.setCells b 0 (AC .u8 32 X)) b X C K∧Only b w (w.setCells b 0 (AC .u8 32 X)):=by
 obtain⟨h1,h2⟩:=h.part (o:=0) (m:=32) (r:=X) (by omega);refine⟨h1.congr (fun i hi=>?_),h2⟩;unfold over ktF cat
 by_cases e:0≤i∧i<0+32
 ·rw[if_pos e]
  rw[if_pos (by omega),if_pos (by omega),Nat.sub_zero]
 ·rw[if_neg e]
  by_cases e1:i<64
  ·rw[if_pos e1,if_pos e1]
   by_cases e2:i<32
   ·first|(exfalso;omega) | rw[if_pos e2,if_pos e2]
   ·first|(exfalso;omega) | rw[if_neg e2,if_neg e2]
  ·first|(exfalso;omega) | rw[if_neg e1,if_neg e1] | rfl
theorem KtAt.setC(h:KtAt w b H C K)(X:Nat→Int):KtAt (w.setCells b 32 (AC .u8 32 X)) b H X K∧Only b w (w.setCells b 32 (AC .u8 32 X)):=by
 obtain⟨h1,h2⟩:=h.part (o:=32) (m:=32) (r:=X) (by omega);refine⟨h1.congr (fun i hi=>?_),h2⟩;unfold over ktF cat
 by_cases e:32≤i∧i<32+32
 ·rw[if_pos e]
  rw[if_pos (by omega),if_neg (by omega)]
 ·rw[if_neg e]
  by_cases e1:i<64
  ·rw[if_pos e1,if_pos e1]
   by_cases e2:i<32
   ·first|(exfalso;omega) | rw[if_pos e2,if_pos e2]
   ·first|(exfalso;omega) | rw[if_neg e2,if_neg e2]
  ·first|(exfalso;omega) | rw[if_neg e1,if_neg e1] | rfl
theorem KtAt.setK(h:KtAt w b H C K)(X:Nat→Int):KtAt (w.setCells b 64 (AC .u8 32 X)) b H C X∧Only b w (w.setCells b 64 (AC .u8 32 X)):=by
 obtain⟨h1,h2⟩:=h.part (o:=64) (m:=32) (r:=X) (by omega);refine⟨h1.congr (fun i hi=>?_),h2⟩;unfold over ktF cat
 by_cases e:64≤i∧i<64+32
 ·rw[if_pos e]
  rw[if_neg (by omega)]
 ·rw[if_neg e]
  by_cases e1:i<64
  ·rw[if_pos e1,if_pos e1]
  ·first|(exfalso;omega) | rw[if_neg e1,if_neg e1] | rfl
end
theorem AaC{ops:Array Oper}{rest:List Oper}{d:Option Tmp}{x y:Operand}{t:TypeId}{ps:String}{af:Array Edge}{a:Act}{w:World}{Q:Exit→Act→World→Prop}{b:Nat}{H C K X:Nat→Int}(hg:KtAt w b H C K)(hx:a.eval x=.pointer (some ⟨b,0,none⟩))(hy:a.eval y=.agg (WA .u8 32 X))(h:∀w2,KtAt w2 b X C K→Only b w w2→wpList prog ops Q rest (a.put d undef) w2):wpList prog ops Q ({ dst:=d,op:=.store 22 x y,type:=t,pos:=ps,after:=af,guard:=none }::rest) a w:=by
 obtain⟨_,_,_,h3⟩:=Af;have h2:=hg.setH X;exact wpList_store_mid rfl 22 x y rfl b 0 (WA .u8 32 X) hx hy (by rw[A5];exact D2 hg (by rw[A5];omega)) (by rw[A5];exact h3) (Fl .u8 32 X) (h _ h2.1 h2.2)
theorem AaD{ops:Array Oper}{rest:List Oper}{d:Option Tmp}{x y:Operand}{t:TypeId}{ps:String}{af:Array Edge}{a:Act}{w:World}{Q:Exit→Act→World→Prop}{b:Nat}{H C K X:Nat→Int}(hg:KtAt w b H C K)(hx:a.eval x=.pointer (some ⟨b,32,none⟩))(hy:a.eval y=.agg (WA .u8 32 X))(h:∀w2,KtAt w2 b H X K→Only b w w2→wpList prog ops Q rest (a.put d undef) w2):wpList prog ops Q ({ dst:=d,op:=.store 22 x y,type:=t,pos:=ps,after:=af,guard:=none }::rest) a w:=by
 obtain⟨_,_,_,h3⟩:=Af;have h2:=hg.setC X;exact wpList_store_mid rfl 22 x y rfl b 32 (WA .u8 32 X) hx hy (by rw[A5];exact D2 hg (by rw[A5];omega)) (by rw[A5];exact h3) (Fl .u8 32 X) (h _ h2.1 h2.2)
theorem Zt{o:Oper}{a:Act}{w:World}{J:Act→World→Prop}{Q:Exit→Act→World→Prop}{x y:Operand}(ho:o.op=.store 22 x y){b:Nat}{H C K X:Nat→Int}(hg:KtAt w b H C K)(hx:a.eval x=.pointer (some ⟨b,32,none⟩))(hy:a.eval y=.agg (WA .u8 32 X))(h:∀w2,KtAt w2 b H X K→Only b w w2→J (a.put o.dst undef) w2):o.wp prog a w J Q:=by
 obtain⟨_,_,_,h3⟩:=Af;have h2:=hg.setC X;exact wp_store_mid 22 x y ho b 32 (WA .u8 32 X) hx hy (by rw[A5];exact D2 hg (by rw[A5];omega)) (by rw[A5];exact h3) (Fl .u8 32 X) (h _ h2.1 h2.2)
theorem Zu{o:Oper}{a:Act}{w:World}{J:Act→World→Prop}{Q:Exit→Act→World→Prop}{x y:Operand}(ho:o.op=.store 22 x y){b:Nat}{H C K X:Nat→Int}(hg:KtAt w b H C K)(hx:a.eval x=.pointer (some ⟨b,64,none⟩))(hy:a.eval y=.agg (WA .u8 32 X))(h:∀w2,KtAt w2 b H C X→Only b w w2→J (a.put o.dst undef) w2):o.wp prog a w J Q:=by
 obtain⟨_,_,_,h3⟩:=Af;have h2:=hg.setK X;exact wp_store_mid 22 x y ho b 64 (WA .u8 32 X) hx hy (by rw[A5];exact D2 hg (by rw[A5];omega)) (by rw[A5];exact h3) (Fl .u8 32 X) (h _ h2.1 h2.2)
theorem AaE(b k:Nat)(w:World):k<3→(Instr.fieldAt 121 (.pointer (some ⟨b,0,none⟩)) k).run prog w=.ok (.pointer (some ⟨b,[0,32,64].getD k 0,none⟩)) w:=by
 intro hk
 match k,hk with
 | 0,_=>simp[go_sem]
 | 1,_=>simp[go_sem]
 | 2,_=>simp[go_sem]
theorem Dv{a:Act}{o:Oper}{w:World}{x:Operand}{k:Nat}(ho:o.op=.fieldAddr 121 x k){b:Nat}(hx:a.eval x=.pointer (some ⟨b,0,none⟩))(hk:k<3):(execOp a.eval o).run prog w=.ok (.value (.pointer (some ⟨b,[0,32,64].getD k 0,none⟩))) w:=by
 have h:=AaE b k w hk;unfold execOp;simp only[ho,hx,Sem.run_bind,h,Result.andThen_ok,Sem.run_pure]
theorem P5(b n:Nat)(H C K:Nat→Int)(s:ByteArray)(w:World)(hE:Env w)(g:KtAt w b H C K)(hC:Byts 32 C)(hs:s.size≤140737488355328)(h1:1≤n)(h8:n≤8):Calls prog 119 #[.pointer (some ⟨b,0,none⟩),.int .i64 (n:Int),.string s] w fun e w'=>∃gl cl,e=.returned (.slice (some ⟨gl,0,none⟩) n cl)∧w.heap.size≤gl∧RowsAt w' gl n 0 (chn C s)∧Below w.heap.size w w':=by
 have hr:=g.c;have hCh:=fun u hT=>Up n C s u hT hC h1 h8 hs
 change ∀u,Tabs u→Calls prog 148 #[.int .i64 (n:Int),.agg (WA .u8 32 C),.string s] u fun e w'=>∃v B,e=.returned (.tuple #[v,.int .i64 0])∧u.heap.size≤B∧w'.ownsRow B 22 32 v n (EN (chn C s) n)∧Below u.heap.size u w' at hCh
 have HT:=Hid.mk hE.1;clear hE;go_enter func119,ntmps119
 go_wp2_with (refine Ae rfl (Ao rfl Af (by rfl) hr) ?_)
 refine(hCh _ HT.out).mono ?_;rintro e v1 ⟨vl,Bl,rfl,hBl,hO,hb1⟩;obtain⟨gl,cl,rfl,hgl,rL⟩:=O4 hO (by omega);clear hr hO hCh;go_wp2_with fail
 go_ret
 exact⟨gl,cl,rfl,by omega,rL,hb1⟩
theorem P6(b:Nat)(H C K:Nat→Int)(s:ByteArray)(w:World)(hE:Env w)(g:KtAt w b H C K)(hC:Byts 32 C)(hs:s.size≤140737488355328):Calls prog 92 #[.pointer (some ⟨b,0,none⟩),.string s] w fun e w'=>e=.returned (.tuple #[])∧KtAt w' b H (chn C s 0) K∧Touch (fun x=>x=b) w w':=by
 have hbl:=g.lt;go_enter func92,ntmps92;go_wp2_with fail;refine(P5 b 1 H C K s _ hE g hC hs (by omega) (by omega)).mono ?_;rintro e v1 ⟨gl,cl,rfl,hgl,rL,hb1⟩;replace g:=g.kept hb1;have ht:=DQ b hb1;have hr0:=rL.range (Acg 0) (by omega);clear hb1 hE
 go_wp2_with (first|(refine Ae rfl (De (i:=0) rfl (by rfl) (by rfl) (by omega)) ?_)|(refine Ae rfl (Ao rfl Af (by rfl) hr0) ?_)|(refine AaD g (by rfl) (by rfl) ?_;intro v3 g3 o3;refine Hid.out ?_))
 refine Hid.mk ?_;go_wp2_with fail;exact bodyPost_end (results_none rfl _ _ _) rfl ⟨rfl,g3,ht.trans (Ag o3)⟩
theorem Us(b:Nat)(H C K:Nat→Int)(s:ByteArray)(w:World)(hE:Env w)(g:KtAt w b H C K)(hC:Byts 32 C)(hs:s.size≤140737488355328):Calls prog 81 #[.pointer (some ⟨b,0,none⟩),.string s] w fun e w'=>e=.returned (.tuple #[])∧KtAt w' b H (chn C s 0) (chn C s 1)∧Touch (fun x=>x=b) w w':=by
 have hbl:=g.lt;go_enter func81,ntmps81;go_wp2_with fail;refine(P5 b 2 H C K s _ hE g hC hs (by omega) (by omega)).mono ?_;rintro e v0 ⟨gl,cl,rfl,hgl,rL,hb1⟩;replace g:=g.kept hb1;have ht:=DQ b hb1;clear hb1 hE;obtain⟨L,hL⟩:∃L,chn C s=L:=⟨_,rfl⟩;rw[hL] at rL;have HRL:Hid (∀u,Touch (fun x=>x=b) v0 u→RowsAt u gl 2 0 L):=Hid.mk (fun u hu=>rL.touch hu (by omega));go_wp2_with fail;refine Ai (Touch (fun x=>x=b) v0) v0.heap.size
   [(b,AbI (WA .u8 96 (ktF H C K)) 121 10 (WA .u8 96 (ktF H (L 0) K)) 13 (WA .u8 96 (ktF H (L 0) (L 1))))]
   [kv (.pointer (some ⟨b,0,none⟩)),kv (.pointer (some ⟨b,0,none⟩)),kv (.slice (some ⟨gl,0,none⟩) 2 cl),kv (.pointer (some ⟨gl,0*32,none⟩)),kv (.agg (WA .u8 32 (L 0))),kv (.slice (some ⟨gl,0,none⟩) 2 cl),kv (.pointer (some ⟨gl,1*32,none⟩)),kv (.agg (WA .u8 32 (L 1))),kv (.pointer (some ⟨b,0,none⟩)),kv (.pointer (some ⟨b,32,none⟩)),.val fun _=>True,kv (.pointer (some ⟨b,0,none⟩)),kv (.pointer (some ⟨b,64,none⟩)),.val fun _=>True]
   [.none,.none,.none,.none,.none,.none,.none,.none,.none,.none,.base 0 1,.none,.none,.base 0 2]
   [some 8,some 9,some 10,some 11,some 12,some 13,some 14,some 15,some 16,some 17,none,some 18,some 19,none]
   [(0,.pointer (some ⟨b,0,none⟩)),(4,.slice (some ⟨gl,0,none⟩) 2 cl)]
   [[],[],[],[.slot 2],[.slot 3],[],[.slot 5],[.slot 6],[.slot 0],[.slot 8],[.slot 9,.slot 4,.base 0 0],[.slot 1],[.slot 11],[.slot 12,.slot 7,.base 0 1]]
   [.base 0 2] [8,9,10,11,12,13,14,15,16,17,18,19]
   rfl (by kernel_rfl) ⟨rfl,rfl,trivial⟩ (DQ b (Below.refl _ v0).drew) (Acg _) ⟨⟨g.lt,Al g⟩,trivial⟩ ⟨trivial,trivial⟩ Fj
   ⟨
    sL fun f _=>sV (Ab rfl f.1),
    sL fun f _=>sV (Ab rfl f.1),
    sL fun f _=>sV (Ab rfl f.2.1),
    sL fun _ k=>sV (De (i:=0) rfl k.1 rfl (by omega)),
    (fun _ _ ww _ hS _ _ kn=>sV (Ao rfl Af kn.1 ((HRL.out ww hS).range (Acg 0) (by omega)))),
    sL fun f _=>sV (Ab rfl f.2.1),
    sL fun _ k=>sV (De (i:=1) rfl k.1 rfl (by omega)),
    (fun _ _ ww _ hS _ _ kn=>sV (Ao rfl Af kn.1 ((HRL.out ww hS).range (Nat.zero_le 1) (by omega)))),
    sL fun _ k=>sV (AO rfl k.1),
    sL fun _ kn=>sV (Dv (k:=1) rfl kn.1 (by decide)),
    sL fun _ k=>.inl ⟨trivial,fun K hK=>Zt rfl (Ak k.2.2.1) k.1 k.2.1 (fun w2 hg ho=>hK _ _ ⟨⟨Ag ho,Al hg⟩,trivial⟩)⟩,
    sL fun _ k=>sV (AO rfl k.1),
    sL fun _ kn=>sV (Dv (k:=2) rfl kn.1 (by decide)),
    sL fun _ k=>.inl ⟨trivial,fun K hK=>Zu rfl (Ak k.2.2.1) k.1 k.2.1 (fun w2 hg ho=>hK _ _ ⟨⟨Ag ho,Al hg⟩,trivial⟩)⟩,
    trivial⟩ ?_
 intro vs own v1 hT1 hsz kn inj;clear inj hsz;have g1:KtAt v1 b H (L 0) (L 1):=Ak kn.1;clear kn HRL;simp only[Am,Act.put,Aci,Acj,Ach];go_wp2_with fail;refine bodyPost_end (results_none rfl _ _ _) rfl ⟨rfl,?_,ht.trans hT1⟩;rw[hL];exact g1
theorem GN(args:Array Value)(w:World):(callFunc 121 args).run prog w=.ok (.enter 121 args) w:=by kernel_rfl
theorem QY(args:Array Value)(w:World):(callFunc 120 args).run prog w=.ok (.enter 120 args) w:=by kernel_rfl
theorem Mc(args:Array Value)(w:World):(callFunc 132 args).run prog w=.ok (.enter 132 args) w:=by kernel_rfl
def Ms(H:Nat→Int)(ts:Nat→ByteArray):Nat→Nat→Int
 | 0=>H
 | n+1=>BX (Ms H ts n) (ts n)
theorem AaF{H:Nat→Int}(hH:Byts 32 H)(ts:Nat→ByteArray):∀n,Byts 32 (Ms H ts n)
 | 0=>hH
 | _+1=>C6 _ _ 32
theorem Ho(b:Nat)(H C K:Nat→Int)(v:Value)(cnt:Nat)(ts:Nat→ByteArray)(w:World)(hE:Env w)(hb3:3≤b)(g:KtAt w b H C K)(hH:Byts 32 H)(hv:∀w',Touch (fun x=>x=b) w w'→Strs w' v cnt ts)(hcn:cnt≤1000)(hsz:∀i,i<cnt→(ts i).size≤562949953421312):Calls prog 117 #[.pointer (some ⟨b,0,none⟩),v] w fun e w'=>e=.returned (.tuple #[])∧KtAt w' b (Ms H ts cnt) C K∧Touch (fun x=>x=b) w w':=by
 obtain⟨a,c,rfl,hp⟩:=hv w (Touch.refl _ _);have HV:=Hid.mk hv;have HSZ:=Hid.mk hsz;have HE:Hid (∀u,Touch (fun x=>x=b) w u→Env u):=Hid.mk (fun u hu=>hE.touch hu hb3);clear hv hp hsz hE;go_enter func117,ntmps117;go_wp2_with fail
 go_loopg [8] cnt (fun gm iv v=>∃i:Nat,Hid (gm+i=cnt)∧iv=.int .i64 (i:Int)∧KtAt v b (Ms H ts i) C K∧Touch (fun x=>x=b) w v)
 case atStart=>exact⟨0,Hid.mk rfl,rfl,g,Touch.refl _ _⟩
 case round =>
  clear g;obtain⟨i,HI,rfl,g,ht⟩:=hrel;have hin:i≤cnt:=by have:=HI.out;omega
  by_cases hil:i<cnt
  ·obtain⟨a',c',e,hp⟩:=HV.out wr ht
   simp only[Value.slice.injEq] at e;obtain⟨rfl,_,rfl⟩:=e;obtain⟨p,rfl,hc⟩:=hp (by omega);have hc1:=hc i hil;have hE:=HE.out wr ht;clear hc hp;have hHi:=AaF hH ts i;have HS:Hid (BX (Ms H ts i) (ts i)=Ms H ts (i+1)):=Hid.mk rfl;have hss:=HSZ.out i hil;generalize Ms H ts i=Hi at *;generalize ts i=s at *;have hcv:=F6 b 0 32 wr Hi hHi g.h (cp:=32);have hd:decide ((i:Int)<(cnt:Int))=true:=by simp;omega
   go_wp2_with (refine KJ (s:=mkS 32 Hi) (t:=s) (by rfl) (by rfl) ?_;intro v5 hS5 hb5 hz5;refine Hid.out ?_)
   clear hcv hc1 hz5;replace g:=g.kept hb5;replace hE:=hE.kept hb5;replace ht:=ht.trans (DQ b hb5);clear hb5;refine Hid.mk ?_;go_wp2_with fail;refine(LY _ 2 (Ib (mkS 32 Hi) s) _ hE.1 hS5 (by omega) (by rw[Rn,ByteArray.size_append,Ar];omega)).mono ?_;rintro x v6 ⟨rfl,hb6⟩;rw[Rn];change KtAt v5 b Hi C K at g;have HM:Hid (BJ (mkS 32 Hi++s)=Ms H ts (i+1)):=Hid.mk HS.out;replace g:=g.kept hb6;replace ht:=ht.trans (DQ b hb6);clear hb6 hS5 hE
   go_wp2_with (refine AaC g (by rfl) (by rfl) ?_;intro v7 g7 o7;refine Hid.out ?_)
   rw[HM.out] at g7;refine Hid.mk ?_;go_wp2_with fail
   go_roundg (cnt-(i+1))
   case rel=>exact⟨i+1,Hid.mk (by omega),by go_num,g7,ht.trans (Ag o7)⟩
   case measure=>have:=HI.out;omega
  ·have hi2:i=cnt:=by omega
   subst hi2;have hd:decide ((i:Int)<(i:Int))=false:=by simp
   go_wp2_with fail;exact bodyPost_end (results_none rfl _ _ _) rfl ⟨rfl,g,ht⟩
theorem Co(b:Nat)(H C K e:Nat→Int)(w:World)(hE:Env w)(hb3:3≤b)(g:KtAt w b H C K)(hH:Byts 32 H)(hC:Byts 32 C)(he:Byts 32 e):Calls prog 79 #[.pointer (some ⟨b,0,none⟩),.agg (WA .u8 32 e)] w fun x w'=>x=.returned (.tuple #[])∧KtAt w' b (BX H (mkS 32 e)) (chn C (mkS 32 e) 0) K∧Touch (fun x=>x=b) w w':=by
 have hbl:=g.lt;have hB:Below w.heap.size w (w.alloc (.cells (WA .u8 32 e) 22)):=(Below.refl _ w).alloc (Acg _) _;have g0:ArrAt (w.alloc (.cells (WA .u8 32 e) 22)) w.heap.size .u8 22 32 e:=heap_alloc_new w _;have hcv:=AD 32 w.heap.size 32 _ 32 e g0.row he rfl;have HE:=Hid.mk (hE.kept hB);have HG:=Hid.mk (g.kept hB);have ht:=DQ b hB;clear hE g hB;go_enter func79,ntmps79;go_wp2_with fail;refine(P6 b H C K (mkS 32 e) _ HE.out HG.out hC (by rw[Ar];omega)).mono ?_;rintro x v1 ⟨rfl,g,t1⟩;have hE:=HE.out.touch t1 hb3;replace g0:=g0.touch t1 (by omega);replace ht:=ht.trans t1;clear t1 hcv HE HG;have hcv:=AD 32 w.heap.size 32 _ 32 e g0.row he rfl;have hes:(mkS 32 e).size≤562949953421312:=by rw[Ar];omega
 obtain⟨et,het⟩:∃et,mkS 32 e=et:=⟨_,rfl⟩;rw[het] at hes hcv g;obtain⟨C1,hC1⟩:∃C1,chn C et 0=C1:=⟨_,rfl⟩;rw[hC1] at g
 go_wp2_with (refine Gz (s:=et) (by rfl) ?_;intro v5 hS5 hb5 hz5;refine Hid.out ?_)
 have hst:=g.lt;replace g:=g.kept hb5;replace hE:=hE.kept hb5;replace ht:=ht.trans (DQ b hb5);clear hz5;refine Hid.mk ?_;go_wp2_with fail;refine(Ho b H C1 K _ 1 (FJ et) _ hE hb3 g hH (fun u hu=>hS5.touch (fun p n c hp=>by cases hp;exact Nat.ne_of_gt hst) hu) (by omega) (fun i _=>hes)).mono ?_;rintro x v6 ⟨rfl,g6,t6⟩;go_wp2_with fail;refine bodyPost_end (results_none rfl _ _ _) rfl ⟨rfl,?_,ht.trans t6⟩;rw[het,hC1];exact g6
theorem P7(b:Nat)(H C K:Nat→Int)(s:ByteArray)(w:World)(hE:Env w)(hb3:3≤b)(g:KtAt w b H C K)(hH:Byts 32 H)(hK:Byts 32 K)(hs:s.size≤140737488355328):Calls prog 82 #[.pointer (some ⟨b,0,none⟩),.string s] w fun e w'=>e=.returned (.string (Ek K B9 s (mkS 32 H)))∧KtAt w' b (BX H (Ek K B9 s (mkS 32 H))) C K∧Touch (fun x=>x=b) w w':=by
 have hbl:=g.lt;have HZ:=Hid.mk (fun u=>VU K B9 s (mkS 32 H) u hK Lm hs (by rw[Ar];omega));have hZs:(Ek K B9 s (mkS 32 H)).size≤281474976710656:=by rw[E6];omega
 have HH:=Hid.mk hH;generalize Ek K B9 s (mkS 32 H)=Z at *;go_enter func82,ntmps82;go_wp2_with fail;have HST:Hid (∀u,Below w.heap.size w u→KtAt u b H C K):=Hid.mk (fun u hu=>g.kept hu);refine Ai (Below w.heap.size w) w.heap.size
   ([]:List (Nat×Cont))
   [kv (.pointer (some ⟨b,0,none⟩)),kv (.pointer (some ⟨b,0,none⟩)),kv (.pointer (some ⟨b,64,none⟩)),kv (.agg (WA .u8 32 K)),kv (.agg (WA .u8 12 B9)),kv (.string s),kv (.pointer (some ⟨b,0,none⟩)),kv (.pointer (some ⟨b,0,none⟩)),kv (.pointer (some ⟨b,0,none⟩)),kv (.slice (some ⟨b,0,none⟩) 32 32),kv (.string (mkS 32 H)),kv (.string Z),kv (.string Z)]
   []
   [some 6,some 7,some 8,some 9,some 10,some 11,some 12,some 13,some 14,some 15,some 16,some 17,some 5]
   [(0,.pointer (some ⟨b,0,none⟩)),(1,.string s)]
   [[],[.slot 0],[.slot 1],[.slot 2],[],[],[],[.slot 6],[.slot 7],[.slot 8],[.slot 9],[.slot 3,.slot 4,.slot 5,.slot 10],[.slot 11]]
   [.slot 12] [6,7,8,9,10,11,12,13,14,15,16,17,5]
   rfl (by kernel_rfl) ⟨rfl,rfl,trivial⟩ (Below.refl _ w).drew (Acg _) trivial trivial (A8 (Acg _) trivial)
   ⟨
    sL fun f _=>sV (Ab rfl f.1),
    sL fun _ k=>sV (AO rfl k.1),
    sL fun _ kn=>sV (Dv (k:=2) rfl kn.1 (by decide)),
    (fun _ _ ww _ hS _ _ kn=>sV (Ao rfl Af kn.1 (HST.out ww hS).k)),
    (fun _ _ ww _ _ _ _ _=>.inl ⟨trivial,fun K hK=>AH GN rfl (BI rfl) (J9 0 ww) (fun w' hb=>hK _ _ ⟨Ac hb,rfl⟩)⟩),
    sL fun f _=>sV (Ab rfl f.2.1),
    sL fun f _=>sV (Ab rfl f.1),
    sL fun _ k=>sV (AO rfl k.1),
    sL fun _ kn=>sV (Dv (k:=0) rfl kn.1 (by decide)),
    (fun _ _ ww _ _ _ _ kn=>sV (Ci rfl kn.1 (Sd b 0 ww))),
    (fun _ _ ww _ hS _ _ kn=>sV (AF rfl kn.1 (F6 b 0 32 ww H HH.out (HST.out ww hS).h))),
    (fun _ _ ww _ _ _ _ kn=>.inl ⟨trivial,fun K hK=>AH QY rfl (Iy kn.1 kn.2.1 kn.2.2.1 kn.2.2.2.1) (HZ.out ww) (fun w' hb=>hK _ _ ⟨Ac hb,rfl⟩)⟩),
    sL fun _ k=>sV (Av rfl k.1),
    trivial⟩ ?_
 intro vs own v1 hB1 hs1 kn inj;clear inj hs1 HST HZ;have e5:vs 5=_:=kn.1;clear kn;replace g:=g.kept hB1;replace hE:=hE.kept hB1;have ht:=DQ b hB1;clear hB1;simp only[Am,Act.put,Aci,Acj,Ach,e5]
 go_wp2_with (refine Gz (s:=Z) (by rfl) ?_;intro v5 hS5 hb5 hz5;refine Hid.out ?_)
 have hst:=g.lt;replace g:=g.kept hb5;replace hE:=hE.kept hb5;replace ht:=ht.trans (DQ b hb5);clear hz5;refine Hid.mk ?_;go_wp2_with fail;refine(Ho b H C K _ 1 (FJ Z) _ hE hb3 g hH (fun u hu=>hS5.touch (fun p n c hp=>by cases hp;exact Nat.ne_of_gt hst) hu) (by omega) (fun i _=>by show Z.size≤_;omega)).mono ?_;rintro x v6 ⟨rfl,g6,t6⟩;go_wp2_with fail
 go_ret
 exact⟨rfl,g6,ht.trans t6⟩
theorem K8(b:Nat)(H C K:Nat→Int)(s:ByteArray)(w:World)(hE:Env w)(hb3:3≤b)(g:KtAt w b H C K)(hH:Byts 32 H)(hK:Byts 32 K)(hs:s.size≤140737488355328)(hz:(Bc K B9 s (mkS 32 H)).2=0):Calls prog 89 #[.pointer (some ⟨b,0,none⟩),.string s] w fun e w'=>e=.returned (.string (Bc K B9 s (mkS 32 H)).1)∧KtAt w' b (BX H s) C K∧Touch (fun x=>x=b) w w':=by
 have hbl:=g.lt;have HZ:=Hid.mk (fun u=>OR K B9 s (mkS 32 H) u hK Lm hs (by rw[Ar];omega));have HH:=Hid.mk hH;generalize Bc K B9 s (mkS 32 H)=Z at *;go_enter func89,ntmps89;go_wp2_with fail;have HST:Hid (∀u,Below w.heap.size w u→KtAt u b H C K):=Hid.mk (fun u hu=>g.kept hu);refine Ai (Below w.heap.size w) w.heap.size
   ([]:List (Nat×Cont))
   [kv (.pointer (some ⟨b,0,none⟩)),kv (.pointer (some ⟨b,0,none⟩)),kv (.pointer (some ⟨b,64,none⟩)),kv (.agg (WA .u8 32 K)),kv (.agg (WA .u8 12 B9)),kv (.string s),kv (.pointer (some ⟨b,0,none⟩)),kv (.pointer (some ⟨b,0,none⟩)),kv (.pointer (some ⟨b,0,none⟩)),kv (.slice (some ⟨b,0,none⟩) 32 32),kv (.string (mkS 32 H)),kv (.tuple #[.string Z.1,.int .i64 Z.2]),kv (.tuple #[.string Z.1,.int .i64 Z.2]),kv (.string Z.1),kv (.int .i64 Z.2),kv (.string Z.1),kv (.int .i64 Z.2)]
   []
   [some 8,some 9,some 10,some 11,some 12,some 13,some 14,some 15,some 16,some 17,some 18,some 19,some 7,some 20,some 21,some 5,some 6]
   [(0,.pointer (some ⟨b,0,none⟩)),(1,.string s)]
   [[],[.slot 0],[.slot 1],[.slot 2],[],[],[],[.slot 6],[.slot 7],[.slot 8],[.slot 9],[.slot 3,.slot 4,.slot 5,.slot 10],[.slot 11],[.slot 12],[.slot 12],[.slot 13],[.slot 14]]
   [.slot 15,.slot 16] [8,9,10,11,12,13,14,15,16,17,18,19,7,20,21,5,6]
   rfl (by kernel_rfl) ⟨rfl,rfl,trivial⟩ (Below.refl _ w).drew (Acg _) trivial trivial (A8 (Acg _) trivial)
   ⟨
    sL fun f _=>sV (Ab rfl f.1),
    sL fun _ k=>sV (AO rfl k.1),
    sL fun _ kn=>sV (Dv (k:=2) rfl kn.1 (by decide)),
    (fun _ _ ww _ hS _ _ kn=>sV (Ao rfl Af kn.1 (HST.out ww hS).k)),
    (fun _ _ ww _ _ _ _ _=>.inl ⟨trivial,fun K hK=>AH GN rfl (BI rfl) (J9 0 ww) (fun w' hb=>hK _ _ ⟨Ac hb,rfl⟩)⟩),
    sL fun f _=>sV (Ab rfl f.2.1),
    sL fun f _=>sV (Ab rfl f.1),
    sL fun _ k=>sV (AO rfl k.1),
    sL fun _ kn=>sV (Dv (k:=0) rfl kn.1 (by decide)),
    (fun _ _ ww _ _ _ _ kn=>sV (Ci rfl kn.1 (Sd b 0 ww))),
    (fun _ _ ww _ hS _ _ kn=>sV (AF rfl kn.1 (F6 b 0 32 ww H HH.out (HST.out ww hS).h))),
    (fun _ _ ww _ _ _ _ kn=>.inl ⟨trivial,fun K hK=>AH Mc rfl (Iy kn.1 kn.2.1 kn.2.2.1 kn.2.2.2.1) (HZ.out ww) (fun w' hb=>hK _ _ ⟨Ac hb,rfl⟩)⟩),
    sL fun _ k=>sV (Ab rfl k.1),
    sL fun _ k=>sV (Cp rfl k.1 rfl),
    sL fun _ k=>sV (Cp rfl k.1 rfl),
    sL fun _ k=>sV (Av rfl k.1),
    sL fun _ k=>sV (Av rfl k.1),
    trivial⟩ ?_
 intro vs own v1 hB1 hs1 kn inj;clear inj hs1 HST HZ;have e5:vs 5=_:=kn.1;have e6:vs 6=_:=kn.2.1;clear kn;replace g:=g.kept hB1;replace hE:=hE.kept hB1;have ht:=DQ b hB1;clear hB1;simp only[Am,Act.put,Aci,Acj,Ach,e5,e6];rw[hz];go_wp2_with fail;refine(Jg 0 _).mono ?_;rintro x v2 ⟨rfl,rfl⟩
 go_wp2_with (refine Gz (s:=s) (by rfl) ?_;intro v5 hS5 hb5 hz5;refine Hid.out ?_)
 have hst:=g.lt;replace g:=g.kept hb5;replace hE:=hE.kept hb5;replace ht:=ht.trans (DQ b hb5);clear hz5;refine Hid.mk ?_;go_wp2_with fail;refine(Ho b H C K _ 1 (FJ s) _ hE hb3 g hH (fun u hu=>hS5.touch (fun p n c hp=>by cases hp;exact Nat.ne_of_gt hst) hu) (by omega) (fun i _=>by show s.size≤_;omega)).mono ?_;rintro x v6 ⟨rfl,g6,t6⟩;go_wp2_with fail
 go_ret
 exact⟨rfl,g6,ht.trans t6⟩
set_option linter.unusedVariables false in
theorem Se(b:Nat)(H C K:Nat→Int)(s:ByteArray)(w:World)(hE:Env w)(hb3:3≤b)(g:KtAt w b H C K)(hH:Byts 32 H)(hK:Byts 32 K)(hs:s.size≤140737488355328)(hz:¬(Bc K B9 s (mkS 32 H)).2=0):Calls prog 89 #[.pointer (some ⟨b,0,none⟩),.string s] w fun e w'=>e=gup 13∧Touch (fun x=>x=b) w w':=by
 have hz2:Bc K B9 s (mkS 32 H)=(⟨#[]⟩,13):=(Ul K B9 s (mkS 32 H)).resolve_left hz;clear hz;have hbl:=g.lt;have HZ:=Hid.mk (fun u=>OR K B9 s (mkS 32 H) u hK Lm hs (by rw[Ar];omega));have HH:=Hid.mk hH;generalize Bc K B9 s (mkS 32 H)=Z at *;go_enter func89,ntmps89;go_wp2_with fail;have HST:Hid (∀u,Below w.heap.size w u→KtAt u b H C K):=Hid.mk (fun u hu=>g.kept hu);refine Ai (Below w.heap.size w) w.heap.size
   ([]:List (Nat×Cont))
   [kv (.pointer (some ⟨b,0,none⟩)),kv (.pointer (some ⟨b,0,none⟩)),kv (.pointer (some ⟨b,64,none⟩)),kv (.agg (WA .u8 32 K)),kv (.agg (WA .u8 12 B9)),kv (.string s),kv (.pointer (some ⟨b,0,none⟩)),kv (.pointer (some ⟨b,0,none⟩)),kv (.pointer (some ⟨b,0,none⟩)),kv (.slice (some ⟨b,0,none⟩) 32 32),kv (.string (mkS 32 H)),kv (.tuple #[.string Z.1,.int .i64 Z.2]),kv (.tuple #[.string Z.1,.int .i64 Z.2]),kv (.string Z.1),kv (.int .i64 Z.2),kv (.string Z.1),kv (.int .i64 Z.2)]
   []
   [some 8,some 9,some 10,some 11,some 12,some 13,some 14,some 15,some 16,some 17,some 18,some 19,some 7,some 20,some 21,some 5,some 6]
   [(0,.pointer (some ⟨b,0,none⟩)),(1,.string s)]
   [[],[.slot 0],[.slot 1],[.slot 2],[],[],[],[.slot 6],[.slot 7],[.slot 8],[.slot 9],[.slot 3,.slot 4,.slot 5,.slot 10],[.slot 11],[.slot 12],[.slot 12],[.slot 13],[.slot 14]]
   [.slot 15,.slot 16] [8,9,10,11,12,13,14,15,16,17,18,19,7,20,21,5,6]
   rfl (by kernel_rfl) ⟨rfl,rfl,trivial⟩ (Below.refl _ w).drew (Acg _) trivial trivial (A8 (Acg _) trivial)
   ⟨
    sL fun f _=>sV (Ab rfl f.1),
    sL fun _ k=>sV (AO rfl k.1),
    sL fun _ kn=>sV (Dv (k:=2) rfl kn.1 (by decide)),
    (fun _ _ ww _ hS _ _ kn=>sV (Ao rfl Af kn.1 (HST.out ww hS).k)),
    (fun _ _ ww _ _ _ _ _=>.inl ⟨trivial,fun K hK=>AH GN rfl (BI rfl) (J9 0 ww) (fun w' hb=>hK _ _ ⟨Ac hb,rfl⟩)⟩),
    sL fun f _=>sV (Ab rfl f.2.1),
    sL fun f _=>sV (Ab rfl f.1),
    sL fun _ k=>sV (AO rfl k.1),
    sL fun _ kn=>sV (Dv (k:=0) rfl kn.1 (by decide)),
    (fun _ _ ww _ _ _ _ kn=>sV (Ci rfl kn.1 (Sd b 0 ww))),
    (fun _ _ ww _ hS _ _ kn=>sV (AF rfl kn.1 (F6 b 0 32 ww H HH.out (HST.out ww hS).h))),
    (fun _ _ ww _ _ _ _ kn=>.inl ⟨trivial,fun K hK=>AH Mc rfl (Iy kn.1 kn.2.1 kn.2.2.1 kn.2.2.2.1) (HZ.out ww) (fun w' hb=>hK _ _ ⟨Ac hb,rfl⟩)⟩),
    sL fun _ k=>sV (Ab rfl k.1),
    sL fun _ k=>sV (Cp rfl k.1 rfl),
    sL fun _ k=>sV (Cp rfl k.1 rfl),
    sL fun _ k=>sV (Av rfl k.1),
    sL fun _ k=>sV (Av rfl k.1),
    trivial⟩ ?_
 intro vs own v1 hB1 hs1 kn inj;clear inj hs1 HST HZ;have e5:vs 5=_:=kn.1;have e6:vs 6=_:=kn.2.1;clear kn;replace g:=g.kept hB1;replace hE:=hE.kept hB1;have ht:=DQ b hB1;clear hB1;simp only[Am,Act.put,Aci,Acj,Ach,e5,e6];rw[hz2];go_wp2_with fail;refine(K7 13 _).mono ?_;rintro x v2 ⟨rfl,rfl⟩;exact⟨rfl,rfl,ht⟩
theorem Ce(b:Nat)(H C K M U:Nat→Int)(w:World)(hE:Env w)(g:KtAt w b H C K)(hC:Byts 32 C)(hM:Byts 32 M)(hU:Byts 32 U)(hz:shZ M U=true):Calls prog 80 #[.func (.func 81) #[.pointer (some ⟨b,0,none⟩)] #[],.agg (WA .u8 32 M),.agg (WA .u8 32 U)] w fun e w'=>e=.returned (.tuple #[])∧KtAt w' b H (chn C (mkS 32 (shF M U)) 0) (chn C (mkS 32 (shF M U)) 1)∧Touch (fun x=>x=b) w w':=by
 have hbl:=g.lt;have hB:Below w.heap.size w ((w.alloc (.cells (WA .u8 32 M) 22)).alloc (.cells (WA .u8 32 U) 22)):=((Below.refl _ w).alloc (by simp) _).alloc (by simp) _;have g0:ArrAt ((w.alloc (.cells (WA .u8 32 M) 22)).alloc (.cells (WA .u8 32 U) 22)) w.heap.size .u8 22 32 M:=heap_alloc2_old w _ _;have g1:ArrAt ((w.alloc (.cells (WA .u8 32 M) 22)).alloc (.cells (WA .u8 32 U) 22)) (w.heap.size+1) .u8 22 32 U:=heap_alloc2_new w _ _;have hEB:=hE.kept hB;have HP:=Hid.mk hEB.2;go_enter func80,ntmps80
 go_wp2_with (first|(refine Aq Af g0 (by rfl) ?_)|(refine Aq Af g1 (by rfl) ?_))
 refine(LP M U _ HP.out hM hU).mono ?_;rintro x v1 ⟨rfl,hb1⟩;replace hB:=hB.trans (hb1.mono hB.size);clear hb1 g0 g1 hEB HP;rw[hz];have hs1:=Px M U 32;obtain⟨S,hSe⟩:∃S,shF M U=S:=⟨_,rfl⟩;rw[hSe] at hs1 ⊢;have hv1:=hB.size
 go_wp2_with (refine D1 ?_;intro v2 gs hb2;refine Hid.out ?_)
 replace hB:=hB.trans (hb2.mono hB.size);clear hb2;refine Hid.mk ?_
 go_wp2_with (refine A1 Af gs (by rfl) (by rfl) ?_;intro v3 gs3 o3;refine Hid.out ?_)
 replace hB:=hB.trans (o3.below hv1);clear o3 gs;refine Hid.mk ?_;go_wp2_with fail;refine(Jg 18 _).mono ?_;rintro x v4 ⟨rfl,rfl⟩;have hcv:=AD 32 v1.heap.size 32 v4 32 S gs3.row hs1 rfl;go_wp2_with fail;refine(Us b H C K (mkS 32 S) _ (hE.kept hB) (g.kept hB) hC (by rw[Ar];omega)).mono ?_;rintro x v5 ⟨rfl,g5,t5⟩;go_wp2_with fail;refine bodyPost_end (results_none rfl _ _ _) rfl ⟨rfl,?_,(DQ b hB).trans t5⟩;rw[hSe];exact g5
theorem Hp(f:Value)(M U:Nat→Int)(w:World)(hE:Env w)(hM:Byts 32 M)(hU:Byts 32 U)(hz:shZ M U=false):Calls prog 80 #[f,.agg (WA .u8 32 M),.agg (WA .u8 32 U)] w fun e w'=>e=gup 18∧Below w.heap.size w w':=by
 have hB:Below w.heap.size w ((w.alloc (.cells (WA .u8 32 M) 22)).alloc (.cells (WA .u8 32 U) 22)):=((Below.refl _ w).alloc (by simp) _).alloc (by simp) _;have g0:ArrAt ((w.alloc (.cells (WA .u8 32 M) 22)).alloc (.cells (WA .u8 32 U) 22)) w.heap.size .u8 22 32 M:=heap_alloc2_old w _ _;have g1:ArrAt ((w.alloc (.cells (WA .u8 32 M) 22)).alloc (.cells (WA .u8 32 U) 22)) (w.heap.size+1) .u8 22 32 U:=heap_alloc2_new w _ _;have hEB:=hE.kept hB;have HP:=Hid.mk hEB.2;go_enter func80,ntmps80
 go_wp2_with (first|(refine Aq Af g0 (by rfl) ?_)|(refine Aq Af g1 (by rfl) ?_))
 refine(LP M U _ HP.out hM hU).mono ?_;rintro x v1 ⟨rfl,hb1⟩;replace hB:=hB.trans (hb1.mono hB.size);clear hb1 g0 g1 hEB HP;rw[hz];generalize shF M U=S at *;have hv1:=hB.size
 go_wp2_with (refine D1 ?_;intro v2 gs hb2;refine Hid.out ?_)
 replace hB:=hB.trans (hb2.mono hB.size);clear hb2;refine Hid.mk ?_
 go_wp2_with (refine A1 Af gs (by rfl) (by rfl) ?_;intro v3 gs3 o3;refine Hid.out ?_)
 replace hB:=hB.trans (o3.below hv1);clear o3 gs;refine Hid.mk ?_;go_wp2_with fail;refine(K7 18 _).mono ?_;rintro x v4 ⟨rfl,rfl⟩;exact⟨rfl,rfl,hB⟩
theorem Zv(H C:Nat→Int)(w:World):(Instr.build 121 #[(0,.agg (WA .u8 32 H)),(1,.agg (WA .u8 32 C))]).run prog w=.ok (.agg (WA .u8 96 (ktF H C fun _=>0))) w:=by kernel_rfl
theorem Xz{a:Act}{o:Oper}{w:World}{x y:Operand}(ho:o.op=.build 121 #[(0,x),(1,y)]){H C:Nat→Int}(hx:a.eval x=.agg (WA .u8 32 H))(hy:a.eval y=.agg (WA .u8 32 C)):(execOp a.eval o).run prog w=.ok (.value (.agg (WA .u8 96 (ktF H C fun _=>0)))) w:=by
 have h:=Zv H C w;unfold execOp;simp only[ho,Acs,Acu,Acq,hx,hy,Sem.run_bind,h,Result.andThen_ok,Sem.run_pure]
theorem Zw{ops:Array Oper}{rest:List Oper}{d:Option Tmp}{x:Operand}{t:TypeId}{ps:String}{af:Array Edge}{a:Act}{w:World}{Q:Exit→Act→World→Prop}{H C K:Nat→Int}(hx:a.eval x=.agg (WA .u8 96 (ktF H C K)))(h:∀w',KtAt w' w.heap.size H C K→Below w.heap.size w w'→wpList prog ops Q rest (a.put d (.pointer (some ⟨w.heap.size,0,none⟩))) w'):wpList prog ops Q ({ dst:=d,op:=.box 121 x,type:=t,pos:=ps,after:=af,guard:=none }::rest) a w:=by
 refine CZ rfl ?_;unfold Oper.wp execOp;simp only[hx];simp[go_sem];exact h _ (heap_alloc_new w _) ((Below.refl _ _).alloc (Acg _) _)
theorem AbJ(H:Nat→Int)(s t:ByteArray):Ms H (Ib s t) 2=BX (BX H s) t:=by simp only[Ms,Ib]
theorem Mt(t C0:Nat→Int)(w:World)(hE:Env w)(ht:Byts 32 t)(hC0:Byts 32 C0)(hS:∀u v,Tabs u→Strs u v 1 (FJ ⟨#[78,111,105,115,101,95,73,75,112,115,107,50,95,50,53,53,49,57,95,67,104,97,67,104,97,80,111,108,121,95,66,76,65,75,69,50,115]⟩)→Calls prog 107 #[v] u fun e w'=>e=.returned (.agg (WA .u8 32 C0))∧Below u.heap.size u w'):Calls prog 78 #[.agg (WA .u8 32 t)] w fun e w'=>∃b,w.heap.size≤b∧e=.returned (.pointer (some ⟨b,0,none⟩))∧KtAt w' b (BX (BX C0 ⟨#[97,100,105,116,32,49]⟩) (mkS 32 t)) C0 (fun _=>0)∧Below w.heap.size w w':=by
 have hB:Below w.heap.size w (w.alloc (.cells (WA .u8 32 t) 22)):=(Below.refl _ w).alloc (Acg _) _;have g0:ArrAt (w.alloc (.cells (WA .u8 32 t) 22)) w.heap.size .u8 22 32 t:=heap_alloc_new w _;have hE1:=Hid.mk (hE.kept hB);have h3:=hE.two;clear hE;go_enter func78,ntmps78
 go_wp2_with (refine Gz (s:=⟨#[78,111,105,115,101,95,73,75,112,115,107,50,95,50,53,53,49,57,95,67,104,97,67,104,97,80,111,108,121,95,66,76,65,75,69,50,115]⟩) (by rfl) ?_;intro v1 hS1 hb1 hz1;refine Hid.out ?_)
 have e1:∀o,(w.alloc o).heap.size=w.heap.size+1:=fun o=>by simp
 rw[e1] at hS1;have hE:=hE1.out.kept hb1;replace hB:=hB.trans (hb1.mono hB.size);replace g0:=g0.kept hb1;clear hE1 hz1 hb1 e1;refine Hid.mk ?_;go_wp2_with fail;refine(hS _ _ hE.1 hS1).mono ?_;rintro x v2 ⟨rfl,hb2⟩;replace hE:=hE.kept hb2;replace hB:=hB.trans (hb2.mono hB.size);replace g0:=g0.kept hb2;clear hb2 hS1 hS;have hlt:=g0.lt;have hB2:=hB.size
 go_wp2_with (refine D1 ?_;intro v3 gn hb3;refine Hid.out ?_)
 replace hE:=hE.kept hb3;replace hB:=hB.trans (hb3.mono hB.size);replace g0:=g0.kept hb3;clear hb3;refine Hid.mk ?_
 go_wp2_with (refine A1 Af gn (by rfl) (by rfl) ?_;intro v4 gn4 o4;refine Hid.out ?_)
 replace hE:=hE.only o4 (by omega);replace hB:=hB.trans (o4.below hB2);replace g0:=g0.only o4 (by omega);clear o4 gn;refine Hid.mk ?_;have hB4:=hB.size
 go_wp2_with (first|(refine Aq Af gn4 (by rfl) ?_)|(refine Ae rfl (Xz rfl (by rfl) (by rfl)) ?_)|(refine Zw (by rfl) ?_;intro v5 g5 hb5;refine Hid.out ?_))
 have hb3:3≤v4.heap.size:=by omega
 have hg04:=g0.lt;replace hE:=hE.kept hb5;replace hB:=hB.trans (hb5.mono hB.size);replace g0:=g0.kept hb5;clear hb5 gn4;refine Hid.mk ?_;obtain⟨b,hb⟩:∃b,v4.heap.size=b:=⟨_,rfl⟩;rw[hb] at g5 hb3 hB4 hg04 ⊢;clear hb;have hcv:=AD 32 w.heap.size 32 v5 32 t g0.row ht rfl
 go_wp2_with (refine KJ (s:=⟨#[97,100,105,116,32,49]⟩) (t:=mkS 32 t) (by rfl) (by rfl) ?_;intro v6 hS6 hb6 hz6;refine Hid.out ?_)
 have hst:=g5.lt;replace hE:=hE.kept hb6;replace hB:=hB.trans (hb6.mono hB.size);replace g5:=g5.kept hb6;clear hb6 hcv hz6;refine Hid.mk ?_;go_wp2_with fail
 refine(Ho b C0 C0 _ _ 2 (Ib ⟨#[97,100,105,116,32,49]⟩ (mkS 32 t)) _ hE hb3 g5 hC0 (fun u hu=>hS6.touch (fun p n c hp=>by cases hp;exact Nat.ne_of_gt hst) hu) (by omega) (fun i hi=>by
  match i,hi with
  | 0,_=>exact(show (6:Nat)≤562949953421312 by omega)
  | 1,_=>show (mkS 32 t).size≤_;rw[Ar];omega)).mono ?_
 rintro x v7 ⟨rfl,g7,t7⟩;rw[AbJ] at g7;go_wp2_with fail
 go_ret
 exact⟨b,hB4,rfl,g7,AU hB t7 hB4 (Acg _)⟩
theorem DY(t:Nat→Int)(w:World)(hE:Env w)(ht:Byts 32 t):Calls prog 78 #[.agg (WA .u8 32 t)] w fun e w'=>∃b,w.heap.size≤b∧e=.returned (.pointer (some ⟨b,0,none⟩))∧KtAt w' b (Im t) F1 (fun _=>0)∧Below w.heap.size w w':=
 Mt t F1 w hE ht (GF 32) (fun u v hT hS=>by
  have h:=LY v 1 (FJ ⟨#[78,111,105,115,101,95,73,75,112,115,107,50,95,50,53,53,49,57,95,67,104,97,67,104,97,80,111,108,121,95,66,76,65,75,69,50,115]⟩) u hT hS (by omega) (by rw[Gy];exact(show (37:Nat)≤1152921504606846976 by omega));rw[Gy] at h;exact h)
def acE(m:ByteArray):Nat→Int:=txt (m.extract 8 40)
def acL(O C0:Nat→Int)(m:ByteArray):Nat→Nat→Int:=chn (chn C0 (m.extract 8 40) 0) (mkS 32 (shF O (acE m)))
def Jh(H0:Nat→Int)(m:ByteArray):Nat→Int:=BX H0 (m.extract 8 40)
def acP(O H0 C0:Nat→Int)(m:ByteArray):ByteArray×Int:=Bc (acL O C0 m 1) B9 (m.extract 40 88) (mkS 32 (Jh H0 m))
def acK(O H0 C0:Nat→Int)(m:ByteArray):Nat→Int:=txt (acP O H0 C0 m).1
def acM(O H0 C0:Nat→Int)(m:ByteArray):Nat→Nat→Int:=chn (acL O C0 m 0) (mkS 32 (shF O (acK O H0 C0 m)))
def Mu(H0:Nat→Int)(m:ByteArray):Nat→Int:=BX (Jh H0 m) (m.extract 40 88)
def acT(O H0 C0:Nat→Int)(m:ByteArray):ByteArray×Int:=Bc (acM O H0 C0 m 1) B9 (m.extract 88 116) (mkS 32 (Mu H0 m))
def QZ(H0:Nat→Int)(m:ByteArray):Nat→Int:=BX (Mu H0 m) (m.extract 88 116)
def Gf(n:Int):Value:=.tuple #[.agg (SC 162 Bk),.agg (WA .u8 12 fun _=>0),.int .i64 n]
def BM(O H0 C0:Nat→Int)(m:ByteArray):Value:=
 if ¬m.size=148 then Gf 10 else if ¬m.extract 0 4=⟨#[1,0,0,0]⟩ then Gf 11 else if ¬shZ O (acE m)=true then Gf 18 else
 if ¬(acP O H0 C0 m).2=0 then Gf 13 else if ¬shZ O (acK O H0 C0 m)=true then Gf 18 else if ¬(acT O H0 C0 m).2=0 then Gf 13 else
 .tuple #[.agg (SC 162 (Cl (QZ H0 m) (acM O H0 C0 m 0) (fun _=>0) (acE m) (acK O H0 C0 m) 0 (Kt (m.extract 4 8)))),.agg (WA .u8 12 (txt (acT O H0 C0 m).1)),.int .i64 0]
theorem P8{s:ByteArray}(hs:s.size=4)(n:UInt8):Kt s=(n.toNat:Int)↔s=⟨#[n,0,0,0]⟩:=by
 have h0:=Bn s 0;have h1:=Bn s 1;have h2:=Bn s 2;have h3:=Bn s 3;have hn:=n.toNat_lt;constructor
 ·intro h
  unfold Kt at h;have e0:txt s 0=(n.toNat:Int):=by omega
  have e1:txt s 1=0:=by omega
  have e2:txt s 2=0:=by omega
  have e3:txt s 3=0:=by omega
  refine Ot (by rw[hs];rfl) (fun j hj=>?_);rw[hs] at hj
  match j,hj with
  | 0,_=>exact e0
  | 1,_=>exact e1
  | 2,_=>exact e2
  | 3,_=>exact e3
 ·rintro rfl
  show (n.toNat:Int)+0*256+0*65536+0*16777216=_;omega
theorem Ut(n:Int)(h:W32 n):Kt (Bx n)=n:=by
 have e:∀j,j<4→txt (Bx n) j=AM n j:=fun j hj=>I4 (Ej n j) hj
 unfold Kt;rw[e 0 (by omega),e 1 (by omega),e 2 (by omega),e 3 (by omega)];have e0:AM n 0=n%256:=by unfold AM;rw[Int.pow_zero,Int.ediv_one]
 have e1:AM n 1=n/256%256:=rfl;have e2:AM n 2=n/65536%256:=rfl;have e3:AM n 3=n/16777216%256:=rfl;rw[e0,e1,e2,e3];unfold W32 at h;omega
theorem P9(args:Array Value)(w:World):(callFunc 122 args).run prog w=.ok (.enter 122 args) w:=by kernel_rfl
theorem X4(args:Array Value)(w:World):(callFunc 112 args).run prog w=.ok (.enter 112 args) w:=by kernel_rfl
theorem X5(args:Array Value)(w:World):(callFunc 88 args).run prog w=.ok (.enter 88 args) w:=by kernel_rfl
theorem X6(n:UInt8):(⟨#[n,0,0,0]⟩:ByteArray)=Bx (n.toNat:Int):=by
 have h:=n.toNat_lt;have e:Kt (Bx (n.toNat:Int))=(n.toNat:Int):=Ut _ (by unfold W32;omega);exact((P8 (D0 _) n).1 e).symm
theorem Ji(s:ByteArray)(a b j:Nat)(h:a+j<b)(hb:b≤s.size):txt (s.extract a b) j=txt s (a+j):=by
 have h1:j<(s.extract a b).size:=by rw[ByteArray.size_extract];omega
 have h2:a+j<s.size:=by omega
 rw[←C3 h1,←C3 h2];congr 2;rw[ByteArray.getElem_extract h1]
theorem Ni(m:ByteArray)(p:Nat)(h:p+4≤m.size):CR m p 4=Kt (m.extract p (p+4)):=by
 have e:CR m p 4=0+txt m (p+0)*256 ^ 0+txt m (p+1)*256 ^ 1+txt m (p+2)*256 ^ 2+txt m (p+3)*256 ^ 3:=rfl;unfold Kt;rw[e,Ji m p (p+4) 0 (by omega) h,Ji m p (p+4) 1 (by omega) h,Ji m p (p+4) 2 (by omega) h,Ji m p (p+4) 3 (by omega) h];omega
theorem AaG{fn:Func}{q:Tmp}{ty:TypeId}(h:fn.results=#[.cell q ty]){tmps:Array Value}{w:World}{g n:Nat}{V:Nat→Value}(hA:Mq ty n)(hg:SAt w g ty n V)(hq:tmps.getD q undef=.pointer (some ⟨g,0,none⟩)):(results fn tmps).run prog w=.ok (.agg (SC n V)) w:=by
 obtain⟨d,h1,h2,h3⟩:=hA;have hq':tmps[q]?.getD undef=.pointer (some ⟨g,0,none⟩):=by simpa using hq
 have:=run_loadVar_row (P:=prog) w g ty ty (SC n V) (0,0) _ hg h1 (by cases d<;>first | rfl | exact h2) (by rw[CG];exact h3);simp[results,h,hq',asAddr,this]
theorem PA(m:ByteArray)(size:Nat)(kind:Int)(w:World)(hm:m.size=size)(hk:CR m 0 4=kind)(hs:4≤size):Calls prog 131 #[.string m,.int .i64 (size:Int),.int .u32 kind] w fun x w'=>x=.returned (.tuple #[])∧w'=w:=by
 have h1:((m.size:Int)==(size:Int))=true:=by rw[hm];simp
 have h2:(CR m 0 4==kind)=true:=by rw[hk];simp
 go_enter func131,ntmps131;go_wp2_with fail;refine(Jg 10 _).mono ?_;rintro x v1 ⟨rfl,rfl⟩;go_wp2_with fail;refine(Ge m 0 _ (by omega) (by omega)).mono ?_;rintro x v2 ⟨rfl,rfl⟩;go_wp2_with fail;refine(Jg 11 _).mono ?_;rintro x v3 ⟨rfl,rfl⟩;go_wp2_with fail;exact bodyPost_end (results_none rfl _ _ _) rfl ⟨rfl,rfl⟩
theorem PB(m:ByteArray)(size:Nat)(kind:Int)(w:World)(hm:¬(m.size=size∧CR m 0 4=kind))(hs:4≤size):Calls prog 131 #[.string m,.int .i64 (size:Int),.int .u32 kind] w fun x w'=>x=gup (if m.size=size then 11 else 10)∧w'=w:=by
 by_cases hz:m.size=size
 ·rw[if_pos hz]
  have h1:((m.size:Int)==(size:Int))=true:=by rw[hz];simp
  have h2:(CR m 0 4==kind)=false:=by simpa using fun h=>hm ⟨hz,h⟩
  clear hm;go_enter func131,ntmps131;go_wp2_with fail;refine(Jg 10 _).mono ?_;rintro x v1 ⟨rfl,rfl⟩;go_wp2_with fail;refine(Ge m 0 _ (by omega) (by omega)).mono ?_;rintro x v2 ⟨rfl,rfl⟩;go_wp2_with fail;refine(K7 11 _).mono ?_;rintro x v3 ⟨rfl,rfl⟩;exact⟨rfl,rfl,rfl⟩
 ·rw[if_neg hz]
  have h1:((m.size:Int)==(size:Int))=false:=by simp;omega
  clear hm;go_enter func131,ntmps131;go_wp2_with fail;refine(K7 10 _).mono ?_;rintro x v1 ⟨rfl,rfl⟩;exact⟨rfl,rfl,rfl⟩
def F7(ix:Int)(E:Nat→Int)(k s:ByteArray)(i:Nat):Value:=if i<1 then .int .u32 ix else if i<33 then .int .u8 (E (i-1)) else if i<34 then .string k else .string s
theorem EW(ix:Int)(E:Nat→Int)(k s:ByteArray)(i:Nat):(F7 ix E k s i).oneCell'=true:=by unfold F7;(repeat' split)<;>rfl
def Mv:Nat→Value:=F7 0 (fun _=>0) ⟨#[]⟩ ⟨#[]⟩
theorem Gg:Mq 118 35:=⟨_,underlying118,rfl,by kernel_rfl⟩
theorem X7(ix:Int)(E:Nat→Int)(k s:ByteArray)(w:World):(Instr.build 118 #[(0,.int .u32 ix),(1,.agg (WA .u8 32 E)),(2,.string k),(3,.string s)]).run prog w=.ok (.agg (SC 35 (F7 ix E k s))) w:=by kernel_rfl
theorem Nj{a:Act}{o:Oper}{w:World}{x0 x1 x2 x3:Operand}(ho:o.op=.build 118 #[(0,x0),(1,x1),(2,x2),(3,x3)]){ix:Int}{E:Nat→Int}{k s:ByteArray}(h0:a.eval x0=.int .u32 ix)(h1:a.eval x1=.agg (WA .u8 32 E))(h2:a.eval x2=.string k)(h3:a.eval x3=.string s):(execOp a.eval o).run prog w=.ok (.value (.agg (SC 35 (F7 ix E k s)))) w:=by
 have h:=X7 ix E k s w;unfold execOp;simp only[ho,Acs,Acu,Acq,h0,h1,h2,h3,Sem.run_bind,h,Result.andThen_ok,Sem.run_pure]
theorem Gk{w:World}{b:Nat}{ix:Int}{E:Nat→Int}{k s:ByteArray}(h:SAt w b 118 35 (F7 ix E k s)):w.rangeAt b 1 (AC .u8 32 E):=h.range (by omega) (fun j hj=>by unfold F7;rw[if_neg (by omega),if_pos (by omega),Ac0])
theorem AaH(b k:Nat)(w:World):k<4→(Instr.fieldAt 118 (.pointer (some ⟨b,0,none⟩)) k).run prog w=.ok (.pointer (some ⟨b,[0,1,33,34].getD k 0,none⟩)) w:=by
 intro hk
 match k,hk with
 | 0,_=>simp[go_sem]
 | 1,_=>simp[go_sem]
 | 2,_=>simp[go_sem]
 | 3,_=>simp[go_sem]
theorem Hq{a:Act}{o:Oper}{w:World}{x:Operand}{k:Nat}(ho:o.op=.fieldAddr 118 x k){b:Nat}(hx:a.eval x=.pointer (some ⟨b,0,none⟩))(hk:k<4):(execOp a.eval o).run prog w=.ok (.value (.pointer (some ⟨b,[0,1,33,34].getD k 0,none⟩))) w:=by
 have h:=AaH b k w hk;unfold execOp;simp only[ho,hx,Sem.run_bind,h,Result.andThen_ok,Sem.run_pure]
set_option linter.unusedSimpArgs false in
theorem X8(ix:Int)(E:Nat→Int)(k s:ByteArray)(he:Byts 32 E)(hk:k.size≤1000)(hs:s.size≤1000)(w:World):Calls prog 83 #[.agg (SC 35 (F7 ix E k s))] w fun x w'=>x=.returned (.string (⟨#[1,0,0,0]⟩++Bx ix++mkS 32 E++k++s))∧Below w.heap.size w w':=by
 have g0:SAt (w.alloc (.cells (SC 35 (F7 ix E k s)) 118)) w.heap.size 118 35 (F7 ix E k s):=heap_alloc_new w _;have hB:Below w.heap.size w (w.alloc (.cells (SC 35 (F7 ix E k s)) 118)):=(Below.refl _ w).alloc (Acg _) _;have HL1:Hid ((Bx 1).size+(Bx ix).size≤9223372036854775807):=Hid.mk (by simp only[ByteArray.size_append,D0,Ar];omega);have HL2:Hid ((Bx 1++Bx ix).size+(mkS 32 E).size≤9223372036854775807):=Hid.mk (by simp only[ByteArray.size_append,D0,Ar];omega);have HL3:Hid ((Bx 1++Bx ix++mkS 32 E).size+(k).size≤9223372036854775807):=Hid.mk (by simp only[ByteArray.size_append,D0,Ar];omega);have HL4:Hid ((Bx 1++Bx ix++mkS 32 E++k).size+(s).size≤9223372036854775807):=Hid.mk (by simp only[ByteArray.size_append,D0,Ar];omega);have HE:=Hid.mk he;go_enter func83,ntmps83;go_wp2_with fail;refine AJ (fun v=>SAt v w.heap.size 118 35 (F7 ix E k s)∧Below w.heap.size w v) ⟨g0,hB⟩ ?_;clear g0 hB;rintro v0 ⟨g0,hB⟩;have HG:Hid (∀u,Below v0.heap.size v0 u→SAt u w.heap.size 118 35 (F7 ix E k s)):=Hid.mk (fun u hu=>g0.kept hu);refine Ai (Below v0.heap.size v0) v0.heap.size
   ([]:List (Nat×Cont))
   [kv (.string (Bx 1)),kv (.pointer (some ⟨w.heap.size,0,none⟩)),kv (.int .u32 ix),kv (.string (Bx ix)),kv (.string (Bx 1++Bx ix)),kv (.pointer (some ⟨w.heap.size,1,none⟩)),kv (.slice (some ⟨w.heap.size,1,none⟩) 32 32),kv (.string (mkS 32 E)),kv (.string (Bx 1++Bx ix++mkS 32 E)),kv (.pointer (some ⟨w.heap.size,33,none⟩)),kv (.string k),kv (.string (Bx 1++Bx ix++mkS 32 E++k)),kv (.pointer (some ⟨w.heap.size,34,none⟩)),kv (.string s),kv (.string (Bx 1++Bx ix++mkS 32 E++k++s)),kv (.string (Bx 1++Bx ix++mkS 32 E++k++s))]
   []
   [some 3,some 4,some 5,some 6,some 7,some 8,some 9,some 10,some 11,some 12,some 13,some 14,some 15,some 16,some 17,some 2]
   [(1,.pointer (some ⟨w.heap.size,0,none⟩))]
   [[],[],[.slot 1],[.slot 2],[.slot 0,.slot 3],[],[.slot 5],[.slot 6],[.slot 4,.slot 7],[],[.slot 9],[.slot 8,.slot 10],[],[.slot 12],[.slot 11,.slot 13],[.slot 14]]
   [.slot 15] [3,4,5,6,7,8,9,10,11,12,13,14,15,16,17,2]
   rfl (by kernel_rfl) ⟨rfl,trivial⟩ (Below.refl _ v0).drew (Acg _) trivial trivial (A8 (Acg _) trivial)
   ⟨
    (fun _ _ ww _ _ _ _ _=>.inl ⟨trivial,fun K hK=>AH P9 rfl (BI rfl) (Ki 1 ww) (fun w' hb=>hK _ _ ⟨Ac hb,rfl⟩)⟩),
    sL fun f _=>sV (Hq (k:=0) rfl f.1 (by decide)),
    (fun _ _ ww _ hS _ _ kn=>sV (At rfl kn.1 (EE ((HG.out ww hS).at 0 (by omega))))),
    (fun _ _ ww _ _ _ _ kn=>.inl ⟨trivial,fun K hK=>AH P9 rfl (BI kn.1) (Ki ix ww) (fun w' hb=>hK _ _ ⟨Ac hb,rfl⟩)⟩),
    sL fun _ k=>sV (Be rfl k.1 k.2.1 HL1.out),
    sL fun f _=>sV (Hq (k:=1) rfl f.1 (by decide)),
    (fun _ _ ww _ _ _ _ kn=>sV (Ci rfl kn.1 (Sd w.heap.size 1 ww))),
    (fun _ _ ww _ hS _ _ kn=>sV (AF rfl kn.1 (F6 w.heap.size 1 32 ww E HE.out (Gk (HG.out ww hS))))),
    sL fun _ k=>sV (Be rfl k.1 k.2.1 HL2.out),
    sL fun f _=>sV (Hq (k:=2) rfl f.1 (by decide)),
    (fun _ _ ww _ hS _ _ kn=>sV (At rfl kn.1 (I5 ((HG.out ww hS).at 33 (by omega))))),
    sL fun _ k=>sV (Be rfl k.1 k.2.1 HL3.out),
    sL fun f _=>sV (Hq (k:=3) rfl f.1 (by decide)),
    (fun _ _ ww _ hS _ _ kn=>sV (At rfl kn.1 (I5 ((HG.out ww hS).at 34 (by omega))))),
    sL fun _ k=>sV (Be rfl k.1 k.2.1 HL4.out),
    sL fun _ k=>sV (Av rfl k.1),
    trivial⟩ ?_
 intro vs own v1 hB1 hs1 kn inj;clear inj hs1 HG;have e2:vs 2=_:=kn.1;clear kn;simp only[Am,Act.put,Aci,Acj,Ach,e2];go_wp2_with fail
 go_ret
 exact⟨by rw[X6];rfl,hB.trans (hB1.mono hB.size)⟩
theorem GO(m:ByteArray)(w:World)(hm:m.size=148)(hk:CR m 0 4=1):Calls prog 87 #[.string m] w fun x w'=>x=.returned (.agg (SC 35 (F7 (CR m 4 4) (txt (m.extract 8 40)) (m.extract 40 88) (m.extract 88 116))))∧Below w.heap.size w w':=by
 have g0:SAt (w.alloc (.cells (SC 35 (Mv)) 118)) w.heap.size 118 35 (Mv):=heap_alloc_new w _;have hB:Below w.heap.size w (w.alloc (.cells (SC 35 (Mv)) 118)):=(Below.refl _ w).alloc (Acg _) _;have HM:=Hid.mk hm;have HS40:Hid (∀u:World,(Instr.sliceAt 9 (.string m) (some (.int .i64 40)) (some (.int .i64 88)) none).run prog u=.ok (.string (m.extract 40 88)) u):=Hid.mk (fun u=>AaB m 40 88 u (by omega) (by have:=HM.out;omega));have HS88:Hid (∀u:World,(Instr.sliceAt 9 (.string m) (some (.int .i64 88)) (some (.int .i64 116)) none).run prog u=.ok (.string (m.extract 88 116)) u):=Hid.mk (fun u=>AaB m 88 116 u (by omega) (by have:=HM.out;omega));go_enter func87,ntmps87;go_wp2_with fail;refine(PA m 148 1 _ hm hk (by omega)).mono ?_;rintro x v1 ⟨rfl,rfl⟩;go_wp2_with fail;clear hm hk;refine AJ (fun v=>SAt v w.heap.size 118 35 (Mv)∧Below w.heap.size w v) ⟨g0,hB⟩ ?_;clear g0 hB;rintro v0 ⟨g0,hB⟩;refine Ai (Below w.heap.size w) v0.heap.size
   [(w.heap.size,once (SC 35 (Mv)) 118 9 (SC 35 (F7 (CR m 4 4) (txt (m.extract 8 40)) (m.extract 40 88) (m.extract 88 116))))]
   [kv (.string m),kv (.int .u32 (CR m 4 4)),kv (.string m),kv (.agg (WA .u8 32 (txt (m.extract 8 40)))),kv (.string m),kv (.string (m.extract 40 88)),kv (.string m),kv (.string (m.extract 88 116)),kv (.agg (SC 35 (F7 (CR m 4 4) (txt (m.extract 8 40)) (m.extract 40 88) (m.extract 88 116)))),.val fun _=>True]
   [.none,.none,.none,.none,.none,.none,.none,.none,.none,.base 0 1]
   [some 5,some 6,some 7,some 8,some 9,some 10,some 11,some 12,some 13,none]
   [(0,.string m),(2,.pointer (some ⟨w.heap.size,0,none⟩))]
   [[],[.slot 0],[],[.slot 2],[],[.slot 4],[],[.slot 6],[.slot 1,.slot 3,.slot 5,.slot 7],[.slot 8,.base 0 0]]
   [.base 0 1] [5,6,7,8,9,10,11,12,13]
   rfl (by kernel_rfl) ⟨rfl,rfl,trivial⟩ (Below.drew hB) (Acg _) ⟨⟨g0.lt,Al g0⟩,trivial⟩ ⟨trivial,trivial⟩ (A8 hB.size ⟨by omega,trivial⟩)
   ⟨
    sL fun f _=>sV (Ab rfl f.1),
    (fun _ _ ww _ _ _ _ kn=>.inl ⟨trivial,fun K hK=>AH X4 rfl (CT kn.1 rfl) ((Ge m 4 ww (by have:=HM.out;omega) (by omega)).mono (fun _ _ h=>⟨h.1,h.2▸Below.refl _ _⟩)) (fun w' hb=>hK _ _ ⟨Ac hb,rfl⟩)⟩),
    sL fun f _=>sV (Ab rfl f.1),
    (fun _ _ ww _ _ _ _ kn=>.inl ⟨trivial,fun K hK=>AH X5 rfl (CT kn.1 rfl) (Hn m 8 ww (by have:=HM.out;omega) (by omega)) (fun w' hb=>hK _ _ ⟨Ac hb,rfl⟩)⟩),
    sL fun f _=>sV (Ab rfl f.1),
    (fun _ _ ww _ _ _ _ kn=>sV (Mb (v:=.string m) (u:=.int .i64 40) (r:=.int .i64 88) rfl kn.1 rfl rfl (HS40.out ww))),
    sL fun f _=>sV (Ab rfl f.1),
    (fun _ _ ww _ _ _ _ kn=>sV (Mb (v:=.string m) (u:=.int .i64 88) (r:=.int .i64 116) rfl kn.1 rfl rfl (HS88.out ww))),
    sL fun _ k=>sV (Nj rfl k.1 k.2.1 k.2.2.1 k.2.2.2.1),
    sL fun f k=>.inl ⟨trivial,fun K hK=>CH rfl Gg (EW _ _ _ _) f.2.1 k.1 (Ak k.2.1) (fun w2 hg ho=>hK _ _ ⟨⟨Ag ho,Al hg⟩,trivial⟩)⟩,
    trivial⟩ ?_
 intro vs own v2 hB1 hs1 kn inj;clear inj hs1 g0 hB;have g0:SAt v2 w.heap.size 118 35 (F7 (CR m 4 4) (txt (m.extract 8 40)) (m.extract 40 88) (m.extract 88 116)):=Ak kn.1;clear kn;simp only[Am,Act.put,Aci,Acj,Ach];go_wp2_with fail;exact bodyPost_ret (AaG results87 Gg g0 (by rfl)) rfl ⟨rfl,hB1⟩
theorem X9(m:ByteArray)(w:World)(hm:¬(m.size=148∧CR m 0 4=1)):Calls prog 87 #[.string m] w fun x w'=>x=gup (if m.size=148 then 11 else 10)∧Below w.heap.size w w':=by
 have g0:SAt (w.alloc (.cells (SC 35 (Mv)) 118)) w.heap.size 118 35 (Mv):=heap_alloc_new w _;have hB:Below w.heap.size w (w.alloc (.cells (SC 35 (Mv)) 118)):=(Below.refl _ w).alloc (Acg _) _;go_enter func87,ntmps87;go_wp2_with fail;refine(PB m 148 1 _ hm (by omega)).mono ?_;rintro x v1 ⟨rfl,rfl⟩;exact⟨rfl,rfl,hB⟩
theorem GP{v0:World}{T:Nat→Prop}{G:List (Nat×Cont)}(hG:∀k∈G.map (·.1),T k)(w w':World)(h:Touch T v0 w)(ht:Touch (fun k=>v0.heap.size≤k∨k∈G.map (·.1)) w w'):Touch T v0 w':=
 ⟨ht.os.trans h.os,ht.tape.trans h.tape,ht.output.trans h.output,Acp h.size ht.size,fun k hk hn=>(ht.block k (by have:=h.size;omega) (fun e=>e.elim (fun e=>by omega) (fun e=>hn (hG k e)))).trans (h.block k hk hn)⟩
theorem AaI{fn:Func}{p q:Tmp}{ty ty':TypeId}(h:fn.results=#[.cell p ty,.cell q ty']){tmps:Array Value}{w:World}{g g' n n':Nat}{k':IntKind}{V:Nat→Value}{s':Nat→Int}(hA:Mq ty n)(hA':Da ty' n')(hg:SAt w g ty n V)(hg':ArrAt w g' k' ty' n' s')(hp:tmps.getD p undef=.pointer (some ⟨g,0,none⟩))(hq:tmps.getD q undef=.pointer (some ⟨g',0,none⟩)):(results fn tmps).run prog w=.ok (.tuple #[.agg (SC n V),.agg (WA k' n' s')]) w:=by
 obtain⟨d,h1,h2,h3⟩:=hA;obtain⟨m',e',h1',h3'⟩:=hA';exact EB h tmps w g g' hp hq _ _ hg hg' (by rw[CG];exact h3) (by rw[A5];exact h3') h1 (by cases d<;>first | rfl | exact h2) h1' rfl
theorem AaJ{fn:Func}{p q:Tmp}{ty:TypeId}(h:fn.results=#[.tmp p,.cell q ty]){tmps:Array Value}{w:World}{g n:Nat}{V:Nat→Value}{x:Value}(hA:Mq ty n)(hg:SAt w g ty n V)(hp:tmps.getD p undef=x)(hq:tmps.getD q undef=.pointer (some ⟨g,0,none⟩)):(results fn tmps).run prog w=.ok (.tuple #[x,.agg (SC n V)]) w:=by
 obtain⟨d,h1,h2,h3⟩:=hA;have hp':tmps[p]?.getD undef=x:=by simpa using hp
 have hq':tmps[q]?.getD undef=.pointer (some ⟨g,0,none⟩):=by simpa using hq
 have:=run_loadVar_row (P:=prog) w g ty ty (SC n V) (0,0) _ hg h1 (by cases d<;>first | rfl | exact h2) (by rw[CG];exact h3);simp[results,h,hp',hq',asAddr,this]
end Go.Proofs.YthghcjepdhkfdaaGreatDoor
