/-
  Own text. The walk of Tag of the document's answer for poly, its first loop: the digits of r.
-/
import Derived.Test.YthghcjepdhkfdaaGreatDoorJB4
import Derived.Lib.AppendStr
import Derived.Laws.BytesArg
import Derived.Test.YthghcjepdhkfdaaGreatDoorJB1
import Derived.Lib.BufferMore
import Derived.Lib.SlBytesConst
import Derived.ArgAppend
set_option maxHeartbeats 16000000
set_option maxRecDepth 100000
open Int renaming add_mul_emod_self_left→AcQ,ediv_ediv_of_nonneg→AcO,eq_ofNat_of_zero_le→Ac3,le_of_lt→Ac4,mul_le_mul_of_nonneg_right→AcT,pow_succ→Acr,reducePow→AcA,tdiv_eq_ediv_of_nonneg→Ac8,tmod_eq_emod_of_nonneg→Acz,toNat_natCast→AcB
open List renaming map_cons→Acu,map_nil→Acq,map_toArray→Acs,setIfInBounds_toArray→Aci,set_cons_succ→Ach,set_cons_zero→Acj
open Nat renaming add_sub_cancel_left→Ac0,add_zero→Ac6,le_refl→Acg,le_trans→Acp,ne_of_lt→Ack,zero_add→Acl
namespace Go.Proofs.YthghcjepdhkfdaaGreatDoor
open Go.RowKit Go.Proofs
open Tryz
theorem VB(key:Nat→Int)(s:ByteArray)(w:World)(hk:Byts 32 key)(hs:s.size≤1152921504606846976):Calls prog 162 #[.agg (WA .u8 32 key),.string s] w fun e w'=>e=.returned (.agg (WA .u8 16 (AM (Dh key (txt s) s.size))))∧Below w.heap.size w w':=by
 have g0:ArrAt ((w.alloc (.cells (WA .u8 32 key) 22)).alloc (.cells (WA .u8 16 fun _=>0) 54)) w.heap.size .u8 22 32 key:=heap_alloc2_old w _ _;have g1:ArrAt ((w.alloc (.cells (WA .u8 32 key) 22)).alloc (.cells (WA .u8 16 fun _=>0) 54)) (w.heap.size+1) .u8 54 16 (fun _=>0):=heap_alloc2_new w _ _;have hB:Below w.heap.size w ((w.alloc (.cells (WA .u8 32 key) 22)).alloc (.cells (WA .u8 16 fun _=>0) 54)):=((Below.refl _ w).alloc (by simp) _).alloc (by simp) _;go_enter func162,ntmps162
 go_wp2_with (refine N9 (n:=16) (Aae _) ?_;intro v0 g5 hb0 hz0;refine Hid.out ?_)
 replace g0:=g0.kept hb0;replace g1:=g1.kept hb0;replace hB:=hB.trans (hb0.mono hB.size);replace g5:ArrAt v0 (w.heap.size+1+1) .i64 3 16 (fun _=>0):=by simpa using g5
 clear hz0;clear hb0;refine Hid.mk ?_;go_wp2_with fail
 go_loopg [6] 16 (fun gm iv v=>∃i:Nat,Hid (gm+i=16)∧iv=.int .i64 (i:Int)∧ArrAt v w.heap.size .u8 22 32 key∧ArrAt v (w.heap.size+1) .u8 54 16 (fun _=>0)∧ArrAt v (w.heap.size+1+1) .i64 3 16 (MI key i)∧Below w.heap.size w v)
 case atStart=>exact⟨0,Hid.mk rfl,rfl,g0,g1,g5.congr (fun i _=>by unfold MI;rw[if_neg (by omega)]),hB⟩
 case round =>
  clear g0 g1 g5 hB;obtain⟨i,HI,rfl,g0,g1,g5,hB⟩:=hrel;have hi16:i≤16:=by have:=HI.out;omega
  by_cases hil:i<16
  ·have ck:=g0.cell i (by omega)
   have cr:=g5.cell i hil;have fr:=g5.free i;have hki:=hk i (by omega);have hmo:(i:Int).tmod 4=((i%4:Nat):Int):=by rw[Acz (by omega)];omega
   by_cases h3:i%4=3
   ·have hm3:((i%4:Nat):Int)=3:=by omega
    have hr:(key i).tmod 16=key i%16:=Acz hki.1;have HV:Hid (key i%16=Cm key i):=Hid.mk (by unfold Cm;rw[if_pos h3]);have hi0:(0:Int)<(i:Int):=by omega
    rw[hm3] at hmo;go_wp2_with fail
    go_roundg (16-(i+1))
    case rel=>exact⟨i+1,Hid.mk (by omega),by go_num,(g0.other _ (by omega)).other _ (by omega),(g1.other _ (by omega)).other _ (by omega),by rw[←FR key i _ HV.out,←FE _ i (key i)];exact(g5.set i (key i) hil).set i _ hil,Below.setCell (Below.setCell hB (by simp;omega) _) (by simp;omega) _⟩
    case measure=>have:=HI.out;omega
   ·by_cases h0:0<i∧i%4=0
    ·have hm0:((i%4:Nat):Int)=0:=by omega
     have hr:(key i).tdiv 4=key i/4:=Ac8 hki.1;have HV:Hid (key i/4*4=Cm key i):=Hid.mk (by unfold Cm;rw[if_neg h3,if_pos h0]);have hi0:(0:Int)<(i:Int):=by omega
     rw[hm0] at hmo;go_wp2_with fail
     go_roundg (16-(i+1))
     case rel=>exact⟨i+1,Hid.mk (by omega),by go_num,(g0.other _ (by omega)).other _ (by omega),(g1.other _ (by omega)).other _ (by omega),by rw[←FR key i _ HV.out,←FE _ i (key i)];exact(g5.set i (key i) hil).set i _ hil,Below.setCell (Below.setCell hB (by simp;omega) _) (by simp;omega) _⟩
     case measure=>have:=HI.out;omega
    ·have HV:Hid (key i=Cm key i):=Hid.mk (by unfold Cm;rw[if_neg h3,if_neg h0])
     by_cases hz:i=0
     ·subst hz
      go_wp2_with fail
      go_roundg (16-(0+1))
      case rel=>exact⟨0+1,Hid.mk (by omega),by go_num,g0.other _ (by omega),g1.other _ (by omega),by rw[←FR key 0 _ HV.out];exact g5.set 0 _ hil,Below.setCell hB (by simp;omega) _⟩
      case measure=>have:=HI.out;omega
     ·obtain⟨q,hq⟩:∃q:Nat,i%4=q:=⟨_,rfl⟩
      rw[hq] at hmo;have hq3:¬((q:Int)=3):=by omega
      have hq0:¬((q:Int)=0):=by omega
      have hqb3:((q:Int)==3)=false:=by simpa using hq3
      have hqb0:((q:Int)==0)=false:=by simpa using hq0
      have hi0:(0:Int)<(i:Int):=by omega
      go_wp2_with fail
      go_roundg (16-(i+1))
      case rel=>exact⟨i+1,Hid.mk (by omega),by go_num,g0.other _ (by omega),g1.other _ (by omega),by rw[←FR key i _ HV.out];exact g5.set i _ hil,Below.setCell hB (by simp;omega) _⟩
      case measure=>have:=HI.out;omega
  ·have hi2:i=16:=by omega
   subst hi2;clear hil hi16 HI;replace g5:=g5.congr (s':=Cm key) (fun i hi=>by unfold MI;rw[if_pos hi])
   go_wp2_with (refine N9 (n:=18) (AaW _) ?_;intro v1 g7 hb1 hz1;refine Hid.out ?_)
   have hz7:=g5.lt;replace g0:=g0.kept hb1;replace g1:=g1.kept hb1;replace g5:=g5.kept hb1;replace hB:=hB.trans (hb1.mono hB.size);have r7:=g7.row;clear hb1 hz1 g7;generalize wr.heap.size=b7 at *;refine Hid.mk ?_;go_wp2_with fail;obtain⟨NB,HNB⟩:∃N:Nat,Hid ((s.size+15)/16=N):=⟨_,Hid.mk rfl⟩;generalize wr=wp at *
   go_loopg [7,8] NB (fun gm hv av v=>∃(q g c m:Nat) (e:Nat→Int),Hid (gm+q=NB)∧hv=.slice (some ⟨g,0,none⟩) m c∧av=.int .i64 (16*(q:Int))∧(w.heap.size+1+1)<g∧RowAt v g .i64 3 m e∧18≤m∧m≤46∧Hid (Dg 256 m e)∧Hid (dval e m=accN (rN key) (txt s) s.size q)∧ArrAt v w.heap.size .u8 22 32 key∧ArrAt v (w.heap.size+1) .u8 54 16 (fun _=>0)∧ArrAt v (w.heap.size+1+1) .i64 3 16 (Cm key)∧Below w.heap.size w v)
   case atStart=>exact⟨0,b7,18,18,fun _=>0,Hid.mk (by omega),rfl,rfl,hz7,r7,by omega,by omega,Hid.mk (fun i _=>by show 0≤(0:Int)∧(0:Int)<256;omega),Hid.mk (by show dval (fun _=>0) 18=0;decide),g0,g1,g5,hB⟩
   case round =>
    clear g0 g1 g5 hB r7;obtain⟨q,g,c,m,e,HQ,rfl,rfl,hg,hr,hm1,hm2,HD,HA,g0,g1,g5,hB⟩:=hrel;have hqN:q≤NB:=by have:=HQ.out;omega
    by_cases hqs:16*q<s.size
    ·have hqN2:q<NB:=by have:=HNB.out;omega
     obtain⟨n,HN⟩:∃n:Nat,Hid (min 16 (s.size-16*q)=n):=⟨_,Hid.mk rfl⟩;have hn16:n≤16:=by have:=HN.out;omega
     have hns:16*q+n≤s.size:=by have:=HN.out;omega
     have hmin:(if (s.size:Int)-16*(q:Int)<16 then (s.size:Int)-16*(q:Int) else 16)=(n:Int):=by have:=HN.out;split<;>omega
     have hqi:16*(q:Int)<(s.size:Int):=by omega
     generalize wr=wq at *;generalize gk=gq at *;have hdq:decide (16*(q:Int)<(s.size:Int))=true:=decide_eq_true hqi;go_wp2_with fail
     go_loopg [10] n (fun gm jv v=>∃j:Nat,Hid (gm+j=n)∧jv=.int .i64 (j:Int)∧RowAt v g .i64 3 m (DM e (fun i=>txt s (16*q+i)) j)∧ArrAt v w.heap.size .u8 22 32 key∧ArrAt v (w.heap.size+1) .u8 54 16 (fun _=>0)∧ArrAt v (w.heap.size+1+1) .i64 3 16 (Cm key)∧Below w.heap.size w v)
     case atStart=>exact⟨0,Hid.mk (by omega),rfl,hr.mono (Acg _) (fun i _=>by unfold DM;rw[if_neg (by omega)]),g0,g1,g5,hB⟩
     case round =>
      clear hr g0 g1 g5 hB;obtain⟨j,HJ,rfl,hr,g0,g1,g5,hB⟩:=hrel;have hjn:j≤n:=by have:=HJ.out;omega
      by_cases hjl:j<n
      ·have hjm:j<m:=by omega
       have hjs:16*q+j<s.size:=by omega
       have HE:Hid (DM e (fun i=>txt s (16*q+i)) j j=e j):=Hid.mk (by unfold DM;rw[if_neg (by omega)]);have hej:=HD.out j hjm;have htb:=Bn s (16*q+j);go_wp2_with fail;refine Ai (Below w.heap.size w) wr.heap.size
        [(g,⟨B5 .i64 3 m (DM e (fun i=>txt s (16*q+i)) j),[(14,B5 .i64 3 m (DM e (fun i=>txt s (16*q+i)) (j+1)))]⟩),(w.heap.size,AQ (WA .u8 32 key) 22),((w.heap.size+1),AQ (WA .u8 16 (fun _=>0)) 54),((w.heap.size+1+1),AQ (WA .i64 16 (Cm key)) 3)]
        [kv (.slice (some ⟨g,0,none⟩) m c),kv (.int .i64 (j:Int)),kv (.slice (some ⟨g,0,none⟩) m c),kv (.int .i64 (j:Int)),kv (.pointer (some ⟨g,0+j,none⟩)),kv (.int .i64 (e j)),kv (.string s),kv (.int .i64 (16*(q:Int))),kv (.int .i64 (j:Int)),kv (.int .i64 ((16*q+j:Nat):Int)),kv (.int .u8 (txt s (16*q+j))),kv (.int .i64 (txt s (16*q+j))),kv (.int .i64 (e j+txt s (16*q+j))),kv (.pointer (some ⟨g,0+j,none⟩)),.val fun _=>True]
        [.none,.none,.none,.none,.none,.none,.none,.none,.none,.none,.none,.none,.none,.none,.base 0 1]
        [some 73,some 74,some 75,some 76,some 77,some 78,some 79,some 80,some 81,some 82,some 83,some 84,some 85,some 86,none]
        [(1,.string s),(7,.slice (some ⟨g,0,none⟩) m c),(8,.int .i64 (16*(q:Int))),(10,.int .i64 (j:Int))]
        [[],[],[],[],[.slot 2,.slot 3],[.slot 4,.base 0 0],[],[],[],[.slot 7,.slot 8],[.slot 6,.slot 9],[.slot 10],[.slot 5,.slot 11],[.slot 0,.slot 1],[.slot 13,.base 0 0,.slot 12]]
        [.base 0 1,.base 1 0,.base 2 0,.base 3 0] [73,74,75,76,77,78,79,80,81,82,83,84,85,86]
        rfl (by kernel_rfl) ⟨rfl,rfl,rfl,rfl,trivial⟩ (Below.drew hB) (Acg _) ⟨⟨hr.lt,hr⟩,⟨g0.lt,Al g0⟩,⟨g1.lt,Al g1⟩,⟨g5.lt,Al g5⟩,trivial⟩ ⟨⟨(show (g:Nat)≠w.heap.size from by omega),(show (g:Nat)≠(w.heap.size+1) from by omega),(show (g:Nat)≠(w.heap.size+1+1) from by omega),trivial⟩,⟨trivial,trivial,trivial⟩,⟨trivial,trivial⟩,trivial,trivial⟩ (A8 hB.size ⟨by omega,by omega,by omega,by omega,trivial⟩)
        ⟨
         sL fun f _=>sV (Ab rfl f.2.1),
         sL fun f _=>sV (Ab rfl f.2.2.2.1),
         sL fun f _=>sV (Ab rfl f.2.1),
         sL fun f _=>sV (Ab rfl f.2.2.2.1),
         sL fun _ k=>sV (An rfl underlying171 As k.1 k.2.1 hjm),
         sL fun _ k=>.inl ⟨trivial,fun K hK=>AX (At rfl k.1 (Aw (Ba k.2.1 hjm))) (hK _ _ ⟨Touch.refl _ _,congrArg (Value.int .i64) HE.out⟩)⟩,
         sL fun f _=>sV (Ab rfl f.1),
         sL fun f _=>sV (Ab rfl f.2.2.1),
         sL fun f _=>sV (Ab rfl f.2.2.2.1),
         sL fun _ k=>sV (BO rfl k.1 k.2.1 (by omega) (by omega)),
         sL fun _ k=>sV (Gx rfl k.1 k.2.1 hjs),
         sL fun _ k=>sV (AF rfl k.1 (Aaf htb _)),
         sL fun _ k=>sV (BO rfl k.1 k.2.1 (by omega) (by omega)),
         sL fun _ k=>sV (An rfl underlying171 As k.1 k.2.1 hjm),
         sL fun _ k=>.inl ⟨trivial,fun K hK=>BQ rfl (Gl k.1) k.2.2.1 k.2.1 hjm (fun w2 hg ho=>hK _ _ ⟨⟨Ag ho,(show B5 .i64 3 m (DM e (fun i=>txt s (16*q+i)) (j+1))=B5 .i64 3 m (upd (DM e (fun i=>txt s (16*q+i)) j) j (e j+txt s (16*q+j))) from by rw[←J4,HE.out])▸hg⟩,trivial⟩)⟩,
         trivial⟩ ?_
       intro vs6 own6 v6 hB6 hs6 kn inj;clear inj hs6;have R6:RowAt v6 g .i64 3 m (DM e (fun i=>txt s (16*q+i)) (j+1)):=kn.1;have G0:ArrAt v6 w.heap.size .u8 22 32 key:=Ak kn.2.1;have G1:ArrAt v6 (w.heap.size+1) .u8 54 16 (fun _=>0):=Ak kn.2.2.1;have G5:ArrAt v6 (w.heap.size+1+1) .i64 3 16 (Cm key):=Ak kn.2.2.2.1;clear kn;simp only[Am,Act.put,Aci,Acj,Ach];go_wp2_with fail
       go_roundg (n-(j+1))
       case rel=>exact⟨j+1,Hid.mk (by omega),by go_num,R6,G0,G1,G5,hB6⟩
       case measure=>have:=HJ.out;omega
      ·have hj2:j=n:=by omega
       subst hj2;clear hjl hjn HJ;have hjm:j<m:=by omega
       have HE:Hid (DM e (fun i=>txt s (16*q+i)) j j=e j):=Hid.mk (by unfold DM;rw[if_neg (by omega)]);obtain⟨h,HH⟩:∃h,Hid (upd (DM e (fun i=>txt s (16*q+i)) j) j (e j+1)=h):=⟨_,Hid.mk rfl⟩;have hej:=HD.out j hjm
       have HHD:Hid (Dg 600 m h):=Hid.mk (fun i hi=>by
        rw[←HH.out];have h1:=HD.out i hi;have h2:=Bn s (16*q+i);unfold upd
        split
        ·omega
        ·unfold DM
         split
         ·show 0≤e i+txt s (16*q+i)∧e i+txt s (16*q+i)<600
          omega
         ·omega)
       have HHV:Hid (dval h 18=accN (rN key) (txt s) s.size q+N8 (txt s) (16*q) j):=Hid.mk (by
        have hhi:=Te (e:=e) (by omega) HD.out (by rw[HA.out];have:=Aac (rN key) (txt s) s.size q;unfold P130 at this;unfold CL;omega)
        have h1:dval h 18=dval h m:=(D6 (by omega) (fun i h1 h2=>by
         rw[←HH.out];unfold upd;rw[if_neg (by omega)];unfold DM;rw[if_neg (by omega)];exact hhi.2 i (by omega) h2)).symm
        rw[h1,←HH.out,show e j+1=DM e (fun i=>txt s (16*q+i)) j j+1 by rw[HE.out],KQ hjm,J5 (by omega),HA.out];unfold N8;omega)
       have cj:=hr.cell j hjm;have fj:=hr.free j hjm;rw[HE.out] at cj;have rh:=hr.set j (e j+1);rw[HH.out] at rh;have g0h:=g0.other (g:=g) (i:=j) (.int .i64 (e j+1)) (by omega);have g1h:=g1.other (g:=g) (i:=j) (.int .i64 (e j+1)) (by omega);have g5h:=g5.other (g:=g) (i:=j) (.int .i64 (e j+1)) (by omega);have hBh:=Below.setCell hB (p:=⟨g,j,none⟩) (by simp;omega) (.int .i64 (e j+1))
       go_wp2_with (refine N9 (n:=40) (AbR _) ?_;intro v3 g11 hb3 hz3;refine Hid.out ?_)
       have hg11:g<(wr.setCell ⟨g,j,none⟩ (.int .i64 (e j+1))).heap.size:=rh.lt;replace rh:=rh.below hb3 hg11;replace g0h:=g0h.kept hb3;replace g1h:=g1h.kept hb3;replace g5h:=g5h.kept hb3;replace hBh:=hBh.trans (hb3.mono hBh.size);clear hr g0 g1 g5 hB hb3 hz3 cj fj;generalize (wr.setCell ⟨g,j,none⟩ (.int .i64 (e j+1))).heap.size=b11 at *;refine Hid.mk ?_;go_wp2_with fail;have HRD:=Hid.mk (KP hk);generalize wr=wz at *;generalize gk=gz at *
       go_loopg [12] 18 (fun gm iv v=>∃(i:Nat) (z:Nat→Int),Hid (gm+i=18)∧iv=.int .i64 (i:Int)∧ArrAt v b11 .i64 3 40 z∧Hid (∀x,x<40→0≤z x∧z x≤(16*i:Nat)*200000)∧Hid (dval z 40=dval h i*rN key)∧RowAt v g .i64 3 m h∧ArrAt v w.heap.size .u8 22 32 key∧ArrAt v (w.heap.size+1) .u8 54 16 (fun _=>0)∧ArrAt v (w.heap.size+1+1) .i64 3 16 (Cm key)∧Below w.heap.size w v)
       case atStart=>exact⟨0,fun _=>0,Hid.mk rfl,rfl,g11,Hid.mk (fun x _=>by show 0≤(0:Int)∧(0:Int)≤_;omega),Hid.mk (by show dval (fun _=>0) 40=0*rN key;rw[Int.zero_mul];decide),rh,g0h,g1h,g5h,hBh⟩
       case round =>
        clear g11 rh g0h g1h g5h hBh;obtain⟨i,z,HI,rfl,g11,HZB,HZV,rh,g0h,g1h,g5h,hBh⟩:=hrel;have hi18:i≤18:=by have:=HI.out;omega
        by_cases hil:i<18
        ·have hdi:decide ((i:Int)<18)=true:=decide_eq_true (by omega)
         go_wp2_with fail;generalize wr=wy at *;generalize gk=gy at *
         go_loopg [13] 16 (fun gm kv v=>∃(k:Nat) (z:Nat→Int),Hid (gm+k=16)∧kv=.int .i64 (k:Int)∧ArrAt v b11 .i64 3 40 z∧Hid (∀x,x<40→0≤z x∧z x≤(16*i+k:Nat)*200000)∧Hid (dval z 40=dval h i*rN key+256 ^ i*(h i*dval (Cm key) k))∧RowAt v g .i64 3 m h∧ArrAt v w.heap.size .u8 22 32 key∧ArrAt v (w.heap.size+1) .u8 54 16 (fun _=>0)∧ArrAt v (w.heap.size+1+1) .i64 3 16 (Cm key)∧Below w.heap.size w v)
         case atStart=>exact⟨0,z,Hid.mk rfl,rfl,g11,HZB,Hid.mk (by rw[HZV.out];simp[dval]),rh,g0h,g1h,g5h,hBh⟩
         case round =>
          clear g11 rh g0h g1h g5h hBh HZB HZV;obtain⟨k,z,HK,rfl,g11,HZB,HZV,rh,g0h,g1h,g5h,hBh⟩:=hrel;have hk16:k≤16:=by have:=HK.out;omega
          by_cases hkl:k<16
          ·have cz:=g11.cell (i+k) (by omega)
           have fz:=g11.free (i+k);have ch:=rh.cell i (by omega);have cr:=g5h.cell k hkl;have dh:=HHD.out i (by omega);have dr:=HRD.out k hkl;have dz:=HZB.out (i+k) (by omega)
           have hpr:0≤h i*Cm key k∧h i*Cm key k≤200000:=by
            refine⟨Int.mul_nonneg dh.1 dr.1,?_⟩;have h1:h i*Cm key k≤600*Cm key k:=AcT (by omega) dr.1;omega
           have HP2:=Hid.mk (Tf z h (Cm key) (rN key) i k (by omega) HZV.out)
           have HB2:Hid (∀x,x<40→0≤upd z (i+k) (z (i+k)+h i*Cm key k) x∧upd z (i+k) (z (i+k)+h i*Cm key k) x≤(16*i+(k+1):Nat)*200000):=Hid.mk (fun x hx=>by
            have h1:=HZB.out x hx;unfold upd
            split
            ·omega
            ·omega)
           have g112:=Hid.mk (g11.set (i+k) (z (i+k)+h i*Cm key k) (by omega));obtain⟨pr,hpr2⟩:∃pr,h i*Cm key k=pr:=⟨_,rfl⟩;rw[hpr2] at HP2 HB2 g112 hpr;generalize hx1:z (i+k)=x1 at *;generalize hx2:h i=x2 at *;generalize hx3:Cm key k=x3 at *;have hm40:(i:Int)+(k:Int)<40:=by omega
           have him:(i:Int)<(m:Int):=by omega
           go_wp2_with fail
           go_region
           go_wp2_with fail
           go_roundg (16-(k+1))
           case rel=>exact⟨k+1,_,Hid.mk (by omega),by go_num,g112.out,HB2,HP2,rh.other _ (by omega),g0h.other _ (by omega),g1h.other _ (by omega),g5h.other _ (by omega),(Below.setCell hBh (p:=⟨b11,i+k,none⟩) (by simp;omega) _).drew⟩
           case measure=>have:=HK.out;omega
          ·have hk2:k=16:=by omega
           subst hk2;have HZ2:Hid (dval z 40=dval h (i+1)*rN key):=Hid.mk (by rw[HZV.out];exact Vy h (Cm key) i);have HB3:Hid (∀x,x<40→0≤z x∧z x≤(16*(i+1):Nat)*200000):=Hid.mk (fun x hx=>by have:=HZB.out x hx;omega);clear HZB HZV HK hkl hk16;go_wp2_with fail
           go_roundg (18-(i+1))
           case rel=>exact⟨i+1,z,Hid.mk (by omega),by go_num,g11,HB3,HZ2,rh,g0h,g1h,g5h,hBh⟩
           case measure=>have:=HI.out;omega
        ·have hi2:i=18:=by omega
         subst hi2
         have HV2:Hid (dval z 40%P130=accN (rN key) (txt s) s.size (q+1)):=Hid.mk (by
          rw[HZV.out,HHV.out];show _=(accN (rN key) (txt s) s.size q+N8 (txt s) (16*q) (min 16 (s.size-16*q)))*rN key%P130;rw[HN.out])
         have hrest:=fun w (hR:RowAt w b11 .i64 3 40 z)=>Vw z 40 b11 40 w hR (fun x hx=>by have:=HZB.out x hx;omega) (by decide)
         clear HZB HZV HI hil hi18 HH HHD HHV HE hej HRD;go_wp2_with fail;refine(hrest _ g11.row).mono ?_;rintro r v5 ⟨g6,c6,m6,rfl,e6,hm61,hm62,hd6,hv6,ho6,hb6⟩;have hz6:b11<wr.heap.size:=g11.lt;have hg6:=ho6.base;have r6:=ho6.row (by omega);replace g0h:=g0h.kept hb6;replace g1h:=g1h.kept hb6;replace g5h:=g5h.kept hb6;replace hBh:=hBh.trans (hb6.mono hBh.size);rw[HV2.out] at hv6;have HD6:=Hid.mk hd6;have HV6:=Hid.mk hv6;clear hrest HV2 hd6 hv6 ho6 hb6 g11 rh;go_wp2_with fail
         go_roundg (NB-(q+1))
         case rel=>exact⟨q+1,g6,c6,m6,e6,Hid.mk (by omega),rfl,by go_num,by omega,r6,hm61,hm62,HD6,HV6,g0h,g1h,g5h,hBh⟩
         case measure=>have:=HQ.out;omega
    ·have hqe:q=NB:=by have:=HNB.out;omega
     have hqi:¬(16*(q:Int)<(s.size:Int)):=by omega
     have HM:Hid (∀i,i<16→AM (accN (rN key) (txt s) s.size q+sN key) i=AM (Dh key (txt s) s.size) i):=Hid.mk (fun i hi=>by
      unfold Dh;rw[Vx _ i hi,HNB.out,hqe])
     generalize wr=wq at *;generalize gk=gq at *;have hdq:decide (16*(q:Int)<(s.size:Int))=false:=decide_eq_false hqi;go_wp2_with fail
     go_loopg [14] 16 (fun gm iv v=>∃i:Nat,Hid (gm+i=16)∧iv=.int .i64 (i:Int)∧RowAt v g .i64 3 m (DM e (fun i=>key (16+i)) i)∧ArrAt v w.heap.size .u8 22 32 key∧ArrAt v (w.heap.size+1) .u8 54 16 (fun _=>0)∧Below w.heap.size w v)
     case atStart=>exact⟨0,Hid.mk rfl,rfl,hr.mono (Acg _) (fun i _=>by unfold DM;rw[if_neg (by omega)]),g0,g1,hB⟩
     case round =>
      clear hr g0 g1 g5 hB;obtain⟨i,HI,rfl,hr,g0,g1,hB⟩:=hrel;have hi16:i≤16:=by have:=HI.out;omega
      by_cases hil:i<16
      ·have ch:=hr.cell i (by omega)
       have fh:=hr.free i (by omega);have ck:=g0.cell (16+i) (by omega);have hki:=hk (16+i) (by omega);have hei:=HD.out i (by omega);have HE:Hid (DM e (fun i=>key (16+i)) i i=e i):=Hid.mk (by unfold DM;rw[if_neg (by omega)]);rw[HE.out] at ch
       have R2:Hid (RowAt (wr.setCell ⟨g,i,none⟩ (.int .i64 (e i+key (16+i)))) g .i64 3 m (DM e (fun i=>key (16+i)) (i+1))):=Hid.mk (by
        have h1:=hr.set i (e i+key (16+i));rw[←J4,HE.out];exact h1)
       have him:(i:Int)<(m:Int):=by omega
       have hi32:(16:Int)+(i:Int)<32:=by omega
       generalize hx1:e i=x1 at *;generalize hx2:key (16+i)=x2 at *;go_wp2_with fail
       go_region
       go_wp2_with fail
       go_roundg (16-(i+1))
       case rel=>exact⟨i+1,Hid.mk (by omega),by go_num,R2.out,g0.other _ (by omega),g1.other _ (by omega),(Below.setCell hB (p:=⟨g,i,none⟩) (by simp;omega) _).drew⟩
       case measure=>have:=HI.out;omega
      ·have hi2:i=16:=by omega
       subst hi2;clear hil hi16 HI;obtain⟨t,HT⟩:∃t,Hid (DM e (fun i=>key (16+i)) 16=t):=⟨_,Hid.mk rfl⟩;rw[HT.out] at hr
       have hcar:=fun w (hR:RowAt w g .i64 3 m t)=>G9 t m g c w hR (fun x hx=>by
        rw[←HT.out];have h1:=HD.out x hx;unfold DM
        split
        ·have h2:=hk (16+x) (by omega)
         show 0≤e x+key (16+x)∧e x+key (16+x)<8796093022208;omega
        ·omega) (by omega)
       have HTV:Hid (dval t m=accN (rN key) (txt s) s.size q+sN key):=Hid.mk (by rw[←HT.out,J5 (by omega),HA.out];rfl);go_wp2_with fail;refine(hcar _ hr).mono ?_;rintro r v5 ⟨g6,c6,m6,e6,rfl,hC6,ho6,hb6⟩;have hm6:=hC6.lo
       have HDG:Hid (∀i,i<16→e6 i=AM (Dh key (txt s) s.size) i):=Hid.mk (fun i hi=>by
        rw[←HM.out i hi,←HTV.out,←hC6.num];exact Aad hC6.dg i (by omega))
       have hdb:=hC6.dg;replace ho6:DigS v5 wr.heap.size g6 c6 m6 e6:=ho6;have r6:=ho6.row (by omega);have hz6:=g1.lt;replace g1:=g1.kept hb6;replace hB:=hB.trans (hb6.mono hB.size);have hg6:=ho6.lt;clear hcar hC6 ho6 hb6 hr g0 HTV HM;have gn:∀o,o=Obj.cells (WA .u8 16 fun _=>0) 54 (0,0)→ArrAt (v5.alloc o) v5.heap.size .u8 54 16 (fun _=>0):=fun o ho=>by rw[ho];exact heap_alloc_new v5 _
       have hz7:=g1.lt;have hBS:=hB.size;go_wp2_with fail
       go_loopg [16] 16 (fun gm iv v=>∃i:Nat,Hid (gm+i=16)∧iv=.int .i64 (i:Int)∧ArrAt v v5.heap.size .u8 54 16 (fun j=>if j<i then e6 j else 0)∧ArrAt v (w.heap.size+1) .u8 54 16 (fun _=>0)∧RowAt v g6 .i64 3 m6 e6∧Below w.heap.size w v)
       case atStart=>exact⟨0,Hid.mk rfl,rfl,(gn _ rfl).congr (fun j _=>by rw[if_neg (by omega)]),g1.alloc _,r6.alloc _,hB.alloc (by omega) _⟩
       case round =>
        clear g1 r6 hB gn;obtain⟨i,HI,rfl,gO,g1,r6,hB⟩:=hrel;have hi16:i≤16:=by have:=HI.out;omega
        by_cases hil:i<16
        ·have ch:=r6.cell i (by omega)
         have co:=gO.cell i hil;have fo:=gO.free i;have hei:=hdb i (by omega)
         have R2:Hid (ArrAt (wr.setCell ⟨v5.heap.size,i,none⟩ (.int .u8 (e6 i))) v5.heap.size .u8 54 16 (fun j=>if j<i+1 then e6 j else 0)):=Hid.mk ((gO.set i (e6 i) hil).congr (fun j hj=>by
          unfold upd
          by_cases h1:j=i
          ·subst h1;rw[if_pos rfl,if_pos (by omega)]
          ·rw[if_neg h1]
           show (if j<i then e6 j else 0)=_
           by_cases h2:j<i
           ·rw[if_pos h2,if_pos (by omega)]
           ·rw[if_neg h2,if_neg (by omega)]))
         have him:(i:Int)<(m6:Int):=by omega
         have hmd:e6 i%256=e6 i:=by omega
         generalize hx1:e6 i=x1 at *;go_wp2_with fail
         go_roundg (16-(i+1))
         case rel=>exact⟨i+1,Hid.mk (by omega),by go_num,R2.out,g1.other _ (by omega),r6.other _ (by omega),Below.setCell hB (p:=⟨v5.heap.size,i,none⟩) (by simp;omega) _⟩
         case measure=>have:=HI.out;omega
        ·have hi2:i=16:=by omega
         subst hi2;replace gO:=gO.congr (s':=AM (Dh key (txt s) s.size)) (fun j hj=>by rw[if_pos hj];exact HDG.out j hj);clear HI hil hi16 r6
         go_wp2_with (first|(refine Aq Ck gO (by rfl) ?_)|(refine A1 Ck g1 (by rfl) (by rfl) ?_;intro v8 g8 o8))
         exact bodyPost_ret (v:=.agg (WA .u8 16 (AM (Dh key (txt s) s.size)))) (AE rfl Ck g8 rfl) rfl ⟨rfl,hB.trans (o8.below (by omega))⟩
end Go.Proofs.YthghcjepdhkfdaaGreatDoor
namespace Go.Proofs.YthghcjepdhkfdaaGreatDoor
open Go.RowKit Go.Proofs Go.Lib
end Go.Proofs.YthghcjepdhkfdaaGreatDoor
namespace Go.Proofs.YthghcjepdhkfdaaGreatDoor
open Go.RowKit Go.Proofs
open Tryz
theorem Kz{r:Int}{f f':Nat→Int}{n n':Nat}:∀(k:Nat),16*k≤n→16*k≤n'→(∀i,i<16*k→f i=f' i)→accN r f n k=accN r f' n' k
 | 0,_,_,_=>rfl
 | k+1,h1,h2,h=>by
  unfold accN;rw[Kz (n:=n) (n':=n') (f:=f) (f':=f') k (by omega) (by omega) (fun i hi=>h i (by omega)),show min 16 (n-16*k)=16 by omega,show min 16 (n' - 16*k)=16 by omega];unfold N8;rw[BW (t:=fun i=>f' (16*k+i)) (fun i hi=>h _ (by omega))]
structure St (key f:Nat→Int) (n:Nat) (R S Z H:Nat→Int):Prop where
 rd:Dg 67108864 5 R
 rn:qv R 5=rN key
 s0:U64 (S 0)
 s1:U64 (S 1)
 sn:S 0+18446744073709551616*S 1=sN key
 zs:Sm Z
 zn:qv Z 5%P130=accN (rN key) f n (n/16)
 hb:Byts 16 H
 he:∀j,j<n%16→H j=f (16*(n/16)+j)
theorem St.congr{key f f':Nat→Int}{n:Nat}{R S Z H:Nat→Int}(h:St key f n R S Z H)(e:∀i,i<n→f i=f' i):St key f' n R S Z H:=
 ⟨h.rd,h.rn,h.s0,h.s1,h.sn,h.zs,by rw[h.zn];exact Kz (n/16) (by omega) (by omega) (fun i hi=>e i (by omega)),h.hb,fun j hj=>by rw[h.he j hj];exact e _ (by omega)⟩
theorem OI{A B r Y q:Int}(h:(A+B)*r=Y+P130*q):Y%P130=(A%P130+B)*r%P130:=by
 have e:Y=(A+B)*r+P130*(-q):=by rw[Int.mul_neg];omega
 rw[e,AcQ,Int.mul_emod,←Int.emod_add_emod,←Int.mul_emod]
theorem St.part{key f:Nat→Int}{n m:Nat}{R S Z H H':Nat→Int}(h:St key f n R S Z H)(hm:n%16+m<16)(hb:Byts 16 H')(he:∀j,j<n%16+m→H' j=f (16*(n/16)+j)):St key f (n+m) R S Z H':=by
 have e1:(n+m)/16=n/16:=by omega
 have e2:(n+m)%16=n%16+m:=by omega
 refine⟨h.rd,h.rn,h.s0,h.s1,h.sn,h.zs,?_,hb,fun j hj=>?_⟩
 ·rw[h.zn,e1]
  exact Kz _ (by omega) (by omega) (fun _ _=>rfl)
 ·rw[e2] at hj
  rw[e1];exact he j hj
theorem St.full{key f:Nat→Int}{n m:Nat}{R S Z H H' z:Nat→Int}(h:St key f n R S Z H)(hm:n%16+m=16)(hb:Byts 16 H')(he:∀j,j<16→H' j=f (16*(n/16)+j))(hz:Sm z){q:Int}(hq:(qv Z 5+(dval H' 16+256 ^ 16))*qv R 5=qv z 5+P130*q):St key f (n+m) R S z H':=by
 have e1:(n+m)/16=n/16+1:=by omega
 have e2:(n+m)%16=0:=by omega
 refine⟨h.rd,h.rn,h.s0,h.s1,h.sn,hz,?_,hb,fun j hj=>by omega⟩;rw[OI hq,h.zn,h.rn,e1];show _=(accN (rN key) f (n+m) (n/16)+N8 f (16*(n/16)) (min 16 (n+m-16*(n/16))))*rN key%P130;rw[show min 16 (n+m-16*(n/16))=16 by omega,Kz (n:=n) (n':=n+m) (f:=f) (f':=f) (n/16) (by omega) (by omega) (fun _ _=>rfl)];unfold N8;rw[BW he]
theorem St.left{key f:Nat→Int}{n:Nat}{R S Z H z:Nat→Int}(h:St key f n R S Z H)(hn:0<n%16){q:Int}(hq:(qv Z 5+(dval H (n%16)+256 ^ (n%16)))*qv R 5=qv z 5+P130*q):(qv z 5%P130+(S 0+18446744073709551616*S 1))%340282366920938463463374607431768211456=Dh key f n:=by
 unfold Dh;rw[OI hq,h.zn,h.rn,h.sn,show (n+15)/16=n/16+1 by omega];show _=((accN (rN key) f n (n/16)+N8 f (16*(n/16)) (min 16 (n-16*(n/16))))*rN key%P130+sN key)%340282366920938463463374607431768211456;rw[show min 16 (n-16*(n/16))=n%16 by omega];unfold N8;rw[BW h.he]
theorem St.none{key f:Nat→Int}{n:Nat}{R S Z H:Nat→Int}(h:St key f n R S Z H)(hn:n%16=0):(qv Z 5%P130+(S 0+18446744073709551616*S 1))%340282366920938463463374607431768211456=Dh key f n:=by
 unfold Dh;rw[h.zn,h.sn,show (n+15)/16=n/16 by omega]
def MacN(w:World)(b:Nat)(key f:Nat→Int)(n:Nat):Prop:=∃R S Z H,MacAt w b R S Z H ((n%16:Nat):Int)∧St key f n R S Z H
theorem MacN.congr{w:World}{b:Nat}{key f f':Nat→Int}{n:Nat}(h:MacN w b key f n)(e:∀i,i<n→f i=f' i):MacN w b key f' n:=by
 obtain⟨R,S,Z,H,h,hs⟩:=h;exact⟨R,S,Z,H,h,hs.congr e⟩
theorem Only.touch{b:Nat}{w w':World}(h:Only b w w'):Touch (fun k=>k=b) w w':=Ag h
theorem Below.touch{w w':World}(b:Nat)(h:Below w.heap.size w w'):Touch (fun k=>k=b) w w':=⟨h.os,h.tape,h.output,h.size,fun k hk _=>h.block k hk⟩
-- r and s out of the key
theorem J7(A B M N k:Nat)(hA:A<2 ^ k)(hM:M<2 ^ k):(A+2 ^ k*B) &&& (M+2 ^ k*N)=(A &&& M)+2 ^ k*(B &&& N):=by
 apply Nat.eq_of_testBit_eq;intro i;have h1:A &&& M<2 ^ k:=Nat.lt_of_le_of_lt Nat.and_le_left hA;rw[Nat.testBit_and,Nat.add_comm A,Nat.add_comm M,Nat.add_comm (A &&& M),Nat.testBit_two_pow_mul_add _ hA,Nat.testBit_two_pow_mul_add _ hM,Nat.testBit_two_pow_mul_add _ h1]
 split
 ·rw[Nat.testBit_and]
 ·rw[Nat.testBit_and]
theorem Abc(A:Nat):A &&& 268435455=A%268435456:=Nat.and_two_pow_sub_one_eq_mod A 28
theorem Qh(A:Nat):A &&& 268435452=A%268435456/4*4:=by
 have h:=J7 (A%4) (A/4) 0 67108863 2 (by omega) (by decide);rw[show A%4+2 ^ 2*(A/4)=A by omega,show 0+2 ^ 2*67108863=268435452 from rfl,Nat.and_zero] at h;have h2:A/4 &&& 67108863=A/4%67108864:=Nat.and_two_pow_sub_one_eq_mod (A/4) 26;rw[h,h2];omega
theorem VC{x:Int}(h0:0≤x)(h1:x<18446744073709551616):bits BinOp.and IntKind.u64 x 1152921487695413247=x%268435456+4294967296*(x/4294967296%268435456/4*4):=by
 obtain⟨n,rfl⟩:=Ac3 h0;have h:=J7 (n%4294967296) (n/4294967296) 268435455 268435452 32 (by omega) (by decide);rw[show n%4294967296+2 ^ 32*(n/4294967296)=n by omega,show 268435455+2 ^ 32*268435452=1152921487695413247 from rfl,Abc,Qh] at h;rw[show (1152921487695413247:Int)=((1152921487695413247:Nat):Int) from rfl,bits_and_u64_nat _ _ (by omega) (by omega),h];omega
theorem Tp{x:Int}(h0:0≤x)(h1:x<18446744073709551616):bits BinOp.and IntKind.u64 x 1152921487695413244=x%268435456/4*4+4294967296*(x/4294967296%268435456/4*4):=by
 obtain⟨n,rfl⟩:=Ac3 h0;have h:=J7 (n%4294967296) (n/4294967296) 268435452 268435452 32 (by omega) (by decide);rw[show n%4294967296+2 ^ 32*(n/4294967296)=n by omega,show 268435452+2 ^ 32*268435452=1152921487695413244 from rfl,Qh,Qh] at h;rw[show (1152921487695413244:Int)=((1152921487695413244:Nat):Int) from rfl,bits_and_u64_nat _ _ (by omega) (by omega),h];omega
theorem R9(s:Nat→Int):dval s 8=s 0+256*s 1+65536*s 2+16777216*s 3+4294967296*s 4+1099511627776*s 5+281474976710656*s 6+72057594037927936*s 7:=by
 simp only[dval,AcA,Int.pow_zero];omega
theorem Abd{key:Nat→Int}(hk:Byts 32 key):bits BinOp.and IntKind.u64 (dval key 8) 1152921487695413247=dval (Cm key) 8:=by
 have hb:=Dt (s:=key) (fun i hi=>hk i (by omega));rw[VC hb.1 hb.2,R9 key,R9 (Cm key)];have h0:=hk 0 (by decide);have h1:=hk 1 (by decide);have h2:=hk 2 (by decide);have h3:=hk 3 (by decide);have h4:=hk 4 (by decide);have h5:=hk 5 (by decide);have h6:=hk 6 (by decide);have h7:=hk 7 (by decide);simp[Cm];omega
theorem Aai{key:Nat→Int}(hk:Byts 32 key):bits BinOp.and IntKind.u64 (dval (fun j=>key (8+j)) 8) 1152921487695413244=dval (fun j=>Cm key (8+j)) 8:=by
 have hb:=Dt (s:=fun j=>key (8+j)) (fun i hi=>hk (8+i) (by omega));rw[Tp hb.1 hb.2,R9 (fun j=>key (8+j)),R9 (fun j=>Cm key (8+j))];have h0:=hk 8 (by decide);have h1:=hk 9 (by decide);have h2:=hk 10 (by decide);have h3:=hk 11 (by decide);have h4:=hk 12 (by decide);have h5:=hk 13 (by decide);have h6:=hk 14 (by decide);have h7:=hk 15 (by decide);simp[Cm];omega
theorem VD{w:World}{b h m dC:Nat}{R S Z H:Nat→Int}{l:Int}(ty:TypeId)(t:ByteArray)(gm:MacAt w b R S Z H l)(hh:h<16)(hm:m=min t.size (16-h)):(Builtin.copy_ #[81,9] ty #[.slice (some ⟨b,12+h,none⟩) (16-h) dC,.string t]).run prog w=.ok (goInt m) (w.setCells b (12+h) (AC .u8 m (txt t))):=by
 have hmin:Nat.min t.size (16-h)=m:=hm.symm
 have hst:=run_storeCells_cells (P:=prog) b (12+h) (AC .u8 m (txt t)) 0 w (by
   intro j hj;rw[A3] at hj;rw[Ac6,gm.at _ (by omega)];rfl) (fun j _=>gm.free _) EG
 simp[Builtin.copy_,run_underlying underlying81,Builtin.lenOf,Builtin.firstCells,hmin];rw[M0 t m (by omega),hst];rfl
theorem RA:Tryz.prog.arrayLen 54=16:=by kernel_rfl
theorem RB(w:World):(sizeOf (Tryz.prog.elem 54)).run prog w=.ok 1 w:=by kernel_rfl
theorem Abe(b l:Nat)(w:World)(hl:l<16):(Instr.sliceAt 54 (.pointer (some ⟨b,12,none⟩)) (some (.int .i64 (l:Int))) none none).run prog w=.ok (.slice (some ⟨b,12+l,none⟩) (16-l) (16-l)) w:=by
 rw[run_sliceAt_array_l (P:=prog) w 54 ⟨b,12,none⟩ underlying54 .i64 (l:Int) (by omega) (by rw[RA];omega),RB,RA];simp only[Result.andThen_ok,slicedAt,AcB,Nat.mul_one];rw[if_neg (by omega),Addr.add_lit]
theorem Abf(b l:Nat)(w:World)(hl:l≤16):(Instr.sliceAt 54 (.pointer (some ⟨b,12,none⟩)) none (some (.int .i64 (l:Int))) none).run prog w=.ok (.slice (some ⟨b,12,none⟩) l 16) w:=by
 rw[run_sliceAt_array_h (P:=prog) w 54 ⟨b,12,none⟩ underlying54 .i64 (l:Int) (by omega) (by rw[RA];omega),RA];simp only[RB,Result.andThen_ok,slicedAt];rw[if_neg (by omega),Addr.add_lit];rfl
theorem Aaj{ops:Array Oper}{rest:List Oper}{d:Option Tmp}{x y:Operand}{t:TypeId}{ps:String}{af:Array Edge}{a:Act}{w:World}{Q:Exit→Act→World→Prop}{b:Nat}{R S Z H z:Nat→Int}{l:Int}(gm:MacAt w b R S Z H l)(hx:a.eval x=.pointer (some ⟨b,7,none⟩))(hy:a.eval y=.agg (WA .u64 5 z))(h:∀w2,MacAt w2 b R S z H l→Only b w w2→wpList prog ops Q rest (a.put d undef) w2):wpList prog ops Q ({ dst:=d,op:=.store 247 x y,type:=t,pos:=ps,after:=af,guard:=none }::rest) a w:=by
 obtain⟨_,_,_,h3⟩:=isL;have h2:=gm.setSum z;exact wpList_store_mid rfl 247 x y rfl b 7 (WA .u64 5 z) hx hy (fun j hj=>by rw[A5] at hj;exact⟨by rw[gm.at (7+j) (by omega)];rfl,gm.free _⟩) (by rw[A5];exact h3) (Fl .u64 5 z) (h _ h2.1 h2.2)
theorem Y0(b:Nat)(key f:Nat→Int)(n:Nat)(s:ByteArray)(w:World)(hM:MacN w b key f n):Calls prog 222 #[.pointer (some ⟨b,0,none⟩),.string s] w fun e w'=>e=.returned (.tuple #[])∧MacN w' b key (cat n f (txt s)) (n+s.size)∧Touch (fun x=>x=b) w w':=by
 replace hM:=hM.congr (f':=cat n f (txt s)) (fun i hi=>by unfold cat;rw[if_pos hi]);have hE:∀j,cat n f (txt s) (n+j)=txt s j:=fun j=>by unfold cat;rw[if_neg (by omega),Ac0]
 generalize cat n f (txt s)=g at *;have HE:=Hid.mk hE;clear hE;go_enter func222,ntmps222;go_wp2_with fail
 go_loopg [1] s.size (fun gm pv v=>∃k:Nat,Hid (gm+k=s.size)∧pv=.string (s.extract k s.size)∧MacN v b key g (n+k)∧Touch (fun x=>x=b) w v)
 case atStart=>exact⟨0,Hid.mk rfl,by simp,hM,Touch.refl _ _⟩
 case round =>
  clear hM;obtain⟨k,HK,rfl,hM,ht⟩:=hrel;have hks:k≤s.size:=by have:=HK.out;omega
  have hsz:=Cc s k;obtain⟨t,ht0⟩:∃t,s.extract k s.size=t:=⟨_,rfl⟩;have HT:Hid (∀j,k+j<s.size→txt t j=g (n+k+j)):=Hid.mk (fun j hj=>by rw[←ht0,B7 s k j hj,Nat.add_assoc,HE.out]);rw[ht0] at hsz;rw[ht0]
  by_cases hkl:k<s.size
  ·obtain⟨R,S,Z,H,gm,hst⟩:=hM
   obtain⟨h,hh⟩:∃h,(n+k)%16=h:=⟨_,rfl⟩;rw[hh] at gm;have HST:=Hid.mk hst;clear hst;have HH:Hid (h<16):=Hid.mk (by omega);obtain⟨m,hm⟩:∃m,m=min t.size (16-h):=⟨_,rfl⟩;have hpos:(0:Int)<(t.size:Int):=by omega
   have hsl:=fun v=>Abe b h v (by omega)
   have hcp2:=VD (dC:=16-h) 3 t gm.drew (by omega) hm;have hch:=gm.held;have hset:=gm.drew.setRest h m (txt t) (by omega)
   have HX:Hid (t.extract m t.size=s.extract (k+m) s.size):=Hid.mk (by
    have h1:(t.extract m t.size).size=s.size-(k+m):=by rw[Cc];omega
    have h2:=Cc s (k+m);rw[←CE (t.extract m t.size),←CE (s.extract (k+m) s.size),h1,h2];refine GV (fun j hj=>?_);rw[B7 t m j (by omega),B7 s (k+m) j (by omega),←ht0,B7 s k (m+j) (by omega),Nat.add_assoc])
   have HO:Hid (∀j,j<h+m→over H h m (txt t) j=g (16*((n+k)/16)+j)):=Hid.mk (fun j hj=>by
    unfold over
    split
    ·rw[HT.out (j-h) (by omega)]
     congr 1;omega
    ·exact HST.out.he j (by omega))
   have HB:Hid (Byts 16 (over H h m (txt t))):=Hid.mk (fun i hi=>by
    unfold over
    split
    ·exact Bn t _
    ·exact HST.out.hb i hi)
   have hmt:(m:Int)≤(t.size:Int):=by omega
   have hm1:1≤m∧k+m≤s.size∧h+m≤16:=by omega
   have hwr:=Cg (n:=(h:Int)+(m:Int)) (by omega) (by omega);have HZ:=Hid.mk hsz;have HM:=Hid.mk hm;clear hsz hm HT ht0;generalize gk=gz at *;go_wp2_with fail
   go_region
   generalize over H h m (txt t)=H' at *;generalize wr.drew.setCells b (12+h) (AC .u8 m (txt t))=v5 at *;obtain⟨gm5,o5⟩:=hset;have ht5:Touch (fun x=>x=b) w v5:=(Touch.drew ht).trans o5.touch;clear hcp2 hsl o5 gm hch ht;have hch:=gm5.held;have hcf:=gm5.free 28;have gm6:=gm5.setHeld ((h:Int)+(m:Int));have ht6:Touch (fun x=>x=b) w (v5.setCell ⟨b,28,none⟩ (.int .i64 ((h:Int)+(m:Int)))):=ht5.trans (only_set (g:=b) (i:=28)).touch
   by_cases hfull:h+m=16
   ·have hfi:(h:Int)+(m:Int)=16:=by omega
    have hfd:((h:Int)+(m:Int)==16)=true:=by simpa using hfi
    rw[hfi] at gm6 ht6;go_wp2_with fail;refine(KV b 16 16 R S Z H' 16 _ gm6 HST.out.zs HST.out.rd HB.out (Acg _)).mono ?_;rintro e v7 ⟨z,hz,⟨q,hq⟩,rfl,hb⟩;have gm7:=gm6.kept hb;have ht7:=ht6.trans (Below.touch b hb);have HQ:=Hid.mk (And.intro hz hq);clear hb gm6 ht6 gm5 ht5 hch hcf hz hq
    go_wp2_with (refine Aaj gm7 (by rfl) (by rfl) ?_;intro v8 gm8 o8;refine Hid.out ?_)
    have ht8:=ht7.trans o8.touch;have hcf:=gm8.free 28;have hch:=gm8.held;have gm9:=gm8.setHeld 0;have ht9:Touch (fun x=>x=b) w (v8.setCell ⟨b,28,none⟩ (.int .i64 0)):=ht8.trans (only_set (g:=b) (i:=28)).touch;clear o8 gm7 ht7;refine Hid.mk ?_;go_wp2_with fail
    go_roundg (s.size-(k+m))
    case rel=>exact⟨k+m,Hid.mk (by omega),congrArg Value.string HX.out,⟨R,S,z,H',by rw[show ((((n+(k+m))%16:Nat)):Int)=0 by omega];exact gm9,by rw[←Nat.add_assoc];exact HST.out.full (by omega) HB.out (fun j hj=>HO.out j (by omega)) HQ.out.1 HQ.out.2⟩,ht9⟩
    case measure=>have:=HK.out;omega
   ·have hfi:¬((h:Int)+(m:Int)=16):=by omega
    have hfd:((h:Int)+(m:Int)==16)=false:=by simpa using hfi
    go_wp2_with fail
    go_roundg (s.size-(k+m))
    case rel=>exact⟨k+m,Hid.mk (by omega),congrArg Value.string HX.out,⟨R,S,Z,H',by rw[show ((((n+(k+m))%16:Nat)):Int)=(h:Int)+(m:Int) by omega];exact gm6,by rw[←Nat.add_assoc];exact HST.out.part (by omega) HB.out (by rw[hh];exact HO.out)⟩,ht6⟩
    case measure=>have:=HK.out;omega
  ·have hk2:k=s.size:=by omega
   subst hk2;have hz0:t.size=0:=by omega
   go_wp2_with fail
   go_end0
   exact⟨rfl,hM,ht⟩
def knM(l:List (Option Value))(K:Value→World→Prop)(i:Nat)(v:Value)(w:World):Prop:=match l.getD i none with
 | some u=>v=u
 | none=>K v w
theorem Tq{l:List (Option Value)}{K:Value→World→Prop}(hK:∀v w w',K v w→Below w.heap.size w w'→K v w'):∀(i:Nat) v w w',knM l K i v w→Below w.heap.size w w'→knM l K i v w':=by
 intro i v w w' h hb;unfold knM at *;generalize l.getD i none=o at *
 cases o with
 | some u=>exact h
 | none=>exact hK v w w' h hb
def pk2(a b:Int):Nat→Int
 | 0=>a
 | 1=>b
 | _=>0
def rL(key:Nat→Int):Nat→Int:=OA (dval (Cm key) 8) (dval (fun j=>Cm key (8+j)) 8) 0
def sLw(key:Nat→Int):Nat→Int:=pk2 (dval (fun j=>key (16+j)) 8) (dval (fun j=>key (24+j)) 8)
theorem Abg(b:Nat)(w:World):(Instr.sliceAt 22 (.pointer (some ⟨b,0,none⟩)) none (some (.int .i64 8)) none).run prog w=.ok (.slice (some ⟨b,0,none⟩) 8 32) w:=by simp[go_sem]
theorem Abh(b:Nat)(w:World):(Instr.sliceAt 22 (.pointer (some ⟨b,0,none⟩)) (some (.int .i64 8)) (some (.int .i64 16)) none).run prog w=.ok (.slice (some ⟨b,8,none⟩) 8 24) w:=by simp[go_sem]
theorem Abi(b:Nat)(w:World):(Instr.sliceAt 22 (.pointer (some ⟨b,0,none⟩)) (some (.int .i64 16)) (some (.int .i64 24)) none).run prog w=.ok (.slice (some ⟨b,16,none⟩) 8 16) w:=by simp[go_sem]
theorem Abj(b:Nat)(w:World):(Instr.sliceAt 22 (.pointer (some ⟨b,0,none⟩)) (some (.int .i64 24)) none none).run prog w=.ok (.slice (some ⟨b,24,none⟩) 8 8) w:=by simp[go_sem]
theorem KW{a:Act}{o:Oper}{w:World}{x y:Operand}(ho:o.op=.binOp .and 98 x y 98){m n:Int}(hx:a.eval x=.int .u64 m)(hy:a.eval y=.int .u64 n):(execOp a.eval o).run prog w=.ok (.value (.int .u64 (bits .and .u64 m n))) w:=BN ho rfl hx hy (by simp[go_sem])
theorem Qi(x y:Int)(w:World):(Instr.build 249 #[(0,.int .u64 x),(1,.int .u64 y)]).run prog w=.ok (.agg #[.int .u64 x,.int .u64 y]) w:=by kernel_rfl
theorem OJ{a:Act}{o:Oper}{w:World}{x y:Operand}(ho:o.op=.build 249 #[(0,x),(1,y)]){m n:Int}(hx:a.eval x=.int .u64 m)(hy:a.eval y=.int .u64 n):(execOp a.eval o).run prog w=.ok (.value (.agg (WA .u64 2 (pk2 m n)))) w:=by
 have h:=Qi m n w;unfold execOp;simp only[ho,Acs,Acu,Acq,hx,hy,Sem.run_bind,h,Result.andThen_ok,Sem.run_pure];rfl
theorem Qj(R S:Nat→Int)(w:World):(Instr.build 251 #[(0,.agg (WA .u64 5 R)),(1,.agg (WA .u64 2 S))]).run prog w=.ok (.agg (Mi R S (fun _=>0) (fun _=>0) 0)) w:=by kernel_rfl
theorem OK{a:Act}{o:Oper}{w:World}{x y:Operand}(ho:o.op=.build 251 #[(0,x),(1,y)]){R S:Nat→Int}(hx:a.eval x=.agg (WA .u64 5 R))(hy:a.eval y=.agg (WA .u64 2 S)):(execOp a.eval o).run prog w=.ok (.value (.agg (Mi R S (fun _=>0) (fun _=>0) 0))) w:=by
 have h:=Qj R S w;unfold execOp;simp only[ho,Acs,Acu,Acq,hx,hy,Sem.run_bind,h,Result.andThen_ok,Sem.run_pure]
theorem VE{o:Oper}{a:Act}{w:World}{K:Act→World→Prop}{Q:Exit→Act→World→Prop}{x:Operand}{cs:Array Value}(ho:o.op=.box 251 x)(hx:a.eval x=.agg cs)(h:∀w',w'.heap[w.heap.size]?=some (.cells cs 251 (0,0))→Below w.heap.size w w'→K (a.put o.dst (.pointer (some ⟨w.heap.size,0,none⟩))) w'):o.wp prog a w K Q:=by
 unfold Oper.wp execOp;simp only[ho,hx];simp[go_sem];exact h _ (heap_alloc_new w _) ((Below.refl _ _).alloc (Acg _) _)
theorem Aak{key:Nat→Int}(hk:Byts 32 key)(f:Nat→Int):St key f 0 (rL key) (sLw key) (fun _=>0) (fun _=>0):=by
 have b0:=Dt (s:=Cm key) (fun i hi=>KP hk i (by omega));have b8:=Dt (s:=fun j=>Cm key (8+j)) (fun i hi=>KP hk (8+i) (by omega));have h16:=Dt (s:=fun j=>key (16+j)) (fun i hi=>hk (16+i) (by omega));have h24:=Dt (s:=fun j=>key (24+j)) (fun i hi=>hk (24+i) (by omega));refine⟨R7 b0 b8 (by omega),?_,h16,h24,?_,⟨fun _ _=>Int.le_refl _,fun _ _ _=>by show (0:Int)<_;decide,by show (0:Int)<_;decide⟩,?_,fun _ _=>by show 0≤(0:Int)∧(0:Int)<256;omega,fun j hj=>by omega⟩
 ·have h:=Df (Cm key) 8 8
  unfold rL;rw[OB];unfold rN;rw[show (16:Nat)=8+8 from rfl,h];simp only[AcA];omega
 ·have h:=Df (fun i=>key (16+i)) 8 8
  unfold sN;rw[show dval (fun i=>key (16+i)) 16=dval (fun i=>key (16+i)) (8+8) from rfl,h];show dval (fun j=>key (16+j)) 8+18446744073709551616*dval (fun j=>key (24+j)) 8=_;rw[BW (s:=fun j=>key (16+(8+j))) (t:=fun j=>key (24+j)) (fun j _=>by show key (16+(8+j))=key (24+j);congr 1;omega)];simp only[AcA]
 ·simp[qv,accN]
theorem Y1(key f:Nat→Int)(w:World)(hk:Byts 32 key):Calls prog 209 #[.agg (WA .u8 32 key)] w fun e w'=>∃b,w.heap.size≤b∧e=.returned (.pointer (some ⟨b,0,none⟩))∧MacN w' b key f 0∧Below w.heap.size w w':=by
 have g0:ArrAt (w.alloc (.cells (WA .u8 32 key) 22)) w.heap.size .u8 22 32 key:=heap_alloc_new w _;have hB:Below w.heap.size w (w.alloc (.cells (WA .u8 32 key) 22)):=(Below.refl _ w).alloc (Acg _) _;have HL:=Hid.mk (Abd hk);have HH:=Hid.mk (Aai hk);have HK0:Hid (Byts 8 key):=Hid.mk (fun i hi=>hk i (by omega));have HK8:Hid (Byts 8 (fun j=>key (8+j))):=Hid.mk (fun i hi=>hk (8+i) (by omega));have HK16:Hid (Byts 8 (fun j=>key (16+j))):=Hid.mk (fun i hi=>hk (16+i) (by omega));have HK24:Hid (Byts 8 (fun j=>key (24+j))):=Hid.mk (fun i hi=>hk (24+i) (by omega));have HR0:=Hid.mk (Dt (s:=Cm key) (fun i hi=>KP hk i (by omega)));have HR8:=Hid.mk (Dt (s:=fun j=>Cm key (8+j)) (fun i hi=>KP hk (8+i) (by omega)));have HS:=Hid.mk (Aak hk f);go_enter func209,ntmps209;go_wp2_with fail;refine Ko (fun v=>ArrAt v w.heap.size .u8 22 32 key∧Below w.heap.size w v) (fun v v'=>Below v.heap.size v v') (knM [some (.slice (some ⟨w.heap.size,0,none⟩) 8 32),some (.int .u64 (dval (key) 8)),some (.int .u64 (dval (Cm key) 8)),some (.slice (some ⟨w.heap.size,8,none⟩) 8 24),some (.int .u64 (dval (fun j=>key (8+j)) 8)),some (.int .u64 (dval (fun j=>Cm key (8+j)) 8)),some (.agg (WA .u64 5 (rL key))),some (.slice (some ⟨w.heap.size,16,none⟩) 8 16),some (.int .u64 (dval (fun j=>key (16+j)) 8)),some (.slice (some ⟨w.heap.size,24,none⟩) 8 8),some (.int .u64 (dval (fun j=>key (24+j)) 8)),some (.agg (WA .u64 2 (sLw key))),some (.agg (Mi (rL key) (sLw key) (fun _=>0) (fun _=>0) 0)),none,none] (fun v u=>∃b,w.heap.size≤b∧v=.pointer (some ⟨b,0,none⟩)∧MacAt u b (rL key) (sLw key) (fun _=>0) (fun _=>0) 0)) [3,4,5,6,7,8,9,10,11,12,13,14,15,16,2]
  [(1,.pointer (some ⟨w.heap.size,0,none⟩))] [[],[0],[1],[],[3],[4],[2,5],[],[7],[],[9],[8,10],[6,11],[12],[13]] rfl (by kernel_rfl) ⟨rfl,trivial⟩ ⟨g0.drew,Below.drew hB⟩ (fun v v' h hb=>⟨h.1.kept hb,h.2.trans (hb.mono h.2.size)⟩) (Tq (fun v u u' ⟨b,h1,h2,h3⟩ hb=>⟨b,h1,h2,h3.kept hb⟩))
  ⟨
   (fun Q a1 ww hS fr kn=>⟨trivial,fun K hK=>AX (Dp rfl fr.1 rfl (Abg _ _)) (hK _ _ rfl (Below.refl _ _))⟩),
   (fun Q a1 ww hS fr kn=>⟨trivial,fun K hK=>AH E5 rfl (BI kn.1) (E4 w.heap.size 0 32 (key) ww HK0.out (fun j hj=>by rw[Acl];exact hS.1.cell j (by omega))) (fun w' hb=>hK _ _ rfl hb)⟩),
   (fun Q a1 ww hS fr kn=>⟨trivial,fun K hK=>AX (KW rfl kn.1 rfl) (hK _ _ (congrArg (Value.int .u64) HL.out) (Below.refl _ _))⟩),
   (fun Q a1 ww hS fr kn=>⟨trivial,fun K hK=>AX (C4 rfl fr.1 rfl rfl (Abh _ _)) (hK _ _ rfl (Below.refl _ _))⟩),
   (fun Q a1 ww hS fr kn=>⟨trivial,fun K hK=>AH E5 rfl (BI kn.1) (E4 w.heap.size 8 24 (fun j=>key (8+j)) ww HK8.out (fun j hj=>hS.1.cell (8+j) (by omega))) (fun w' hb=>hK _ _ rfl hb)⟩),
   (fun Q a1 ww hS fr kn=>⟨trivial,fun K hK=>AX (KW rfl kn.1 rfl) (hK _ _ (congrArg (Value.int .u64) HH.out) (Below.refl _ _))⟩),
   (fun Q a1 ww hS fr kn=>⟨trivial,fun K hK=>AH KT rfl (Gu kn.1 kn.2.1 rfl) (JT _ _ 0 ww HR0.out HR8.out (by omega)) (fun w' hb=>hK _ _ rfl hb)⟩),
   (fun Q a1 ww hS fr kn=>⟨trivial,fun K hK=>AX (C4 rfl fr.1 rfl rfl (Abi _ _)) (hK _ _ rfl (Below.refl _ _))⟩),
   (fun Q a1 ww hS fr kn=>⟨trivial,fun K hK=>AH E5 rfl (BI kn.1) (E4 w.heap.size 16 16 (fun j=>key (16+j)) ww HK16.out (fun j hj=>hS.1.cell (16+j) (by omega))) (fun w' hb=>hK _ _ rfl hb)⟩),
   (fun Q a1 ww hS fr kn=>⟨trivial,fun K hK=>AX (DC rfl fr.1 rfl (Abj _ _)) (hK _ _ rfl (Below.refl _ _))⟩),
   (fun Q a1 ww hS fr kn=>⟨trivial,fun K hK=>AH E5 rfl (BI kn.1) (E4 w.heap.size 24 8 (fun j=>key (24+j)) ww HK24.out (fun j hj=>hS.1.cell (24+j) (by omega))) (fun w' hb=>hK _ _ rfl hb)⟩),
   (fun Q a1 ww hS fr kn=>⟨trivial,fun K hK=>AX (OJ rfl kn.1 kn.2.1) (hK _ _ rfl (Below.refl _ _))⟩),
   (fun Q a1 ww hS fr kn=>⟨trivial,fun K hK=>AX (OK rfl kn.1 kn.2.1) (hK _ _ rfl (Below.refl _ _))⟩),
   (fun Q a1 ww hS fr kn=>⟨trivial,fun K hK=>VE rfl kn.1 (fun w' hg hb=>hK _ _ ⟨_,hS.2.size,rfl,hg⟩ hb)⟩),
   (fun Q a1 ww hS fr kn=>⟨trivial,fun K hK=>AX (Av rfl rfl) (hK _ _ kn.1 (Below.refl _ _))⟩),
   trivial⟩ ?_
 intro vs v1 hS1 hk1;obtain⟨b,h1,h2,h3⟩:=hk1 14 (by decide);change vs 2=_ at h2;simp only[Am,Act.put,Aci,Acj,Ach,h2];clear hk1 h2;go_wp2_with fail
 go_ret
 exact⟨b,h1,rfl,⟨_,_,_,_,h3,HS.out⟩,hS1.2⟩
theorem Tr(b:Nat)(key f:Nat→Int)(n0:Nat)(v:Value)(cnt:Nat)(ts:Nat→ByteArray)(w:World)(hM:MacN w b key f n0)(hv:∀w',Touch (fun x=>x=b) w w'→Strs w' v cnt ts)(hn:cnt<4611686018427387904):Calls prog 210 #[.pointer (some ⟨b,0,none⟩),v] w fun e w'=>e=.returned (.tuple #[])∧MacN w' b key (cat n0 f (txt (AY ts cnt))) (n0+(AY ts cnt).size)∧Touch (fun x=>x=b) w w':=by
 obtain⟨a,c,rfl,hp⟩:=hv w (Touch.refl _ _);have HV:=Hid.mk hv;clear hv hp;go_enter func210,ntmps210;go_wp2_with fail
 go_loopg [10] cnt (fun gm iv v=>∃i:Nat,Hid (gm+i=cnt)∧iv=.int .i64 (i:Int)∧MacN v b key (cat n0 f (txt (AY ts i))) (n0+(AY ts i).size)∧Touch (fun x=>x=b) w v)
 case atStart=>exact⟨0,Hid.mk rfl,rfl,hM.congr (fun i hi=>by unfold cat;rw[if_pos hi]),Touch.refl _ _⟩
 case round =>
  clear hM;obtain⟨i,HI,rfl,hM,ht⟩:=hrel;have hin:i≤cnt:=by have:=HI.out;omega
  by_cases hil:i<cnt
  ·obtain⟨a',c',e,hp⟩:=HV.out wr ht
   simp only[Value.slice.injEq] at e;obtain⟨rfl,_,rfl⟩:=e;obtain⟨p,rfl,hc⟩:=hp (by omega);have hc1:=hc i hil;clear hc hp;go_wp2_with fail;refine(Y0 b key _ _ (ts i) wr hM).mono ?_;rintro e v1 ⟨rfl,hM1,ht1⟩;rw[UP,Nat.add_assoc,←ByteArray.size_append] at hM1;go_wp2_with fail
   go_roundg (cnt-(i+1))
   case rel=>exact⟨i+1,Hid.mk (by omega),by go_num,hM1,ht.trans ht1⟩
   case measure=>have:=HI.out;omega
  ·have hi2:i=cnt:=by omega
   subst hi2;go_wp2_with fail
   go_end0
   exact⟨rfl,hM,ht⟩
theorem Y2(b:Nat)(key f:Nat→Int)(n:Nat)(w:World)(hM:MacN w b key f n):Calls prog 211 #[.pointer (some ⟨b,0,none⟩)] w fun e w'=>e=.returned (.agg (WA .u8 16 (AM (Dh key f n))))∧Below w.heap.size w w':=by
 obtain⟨R,S,Z,H,gm,hst⟩:=hM;have hlt:=gm.lt;obtain⟨h,hh⟩:∃h,n%16=h:=⟨_,rfl⟩;rw[hh] at gm;have HM:Hid (∀v,Below w.heap.size w v→MacAt v b R S Z H (h:Int)):=Hid.mk (fun v hv=>gm.below hv hlt);have HST:=Hid.mk hst;have HH:Hid (h≤16):=Hid.mk (by omega);have gma:=gm.alloc (.cells (WA .u8 16 fun _=>0) 54);have hsum:=gma.sum;have g0:ArrAt ((w.alloc (.cells (WA .u8 16 fun _=>0) 54)).alloc (.cells (WA .u64 5 fun _=>0) 247)) w.heap.size .u8 54 16 (fun _=>0):=heap_alloc2_old w _ _;have gz:ArrAt ((w.alloc (.cells (WA .u8 16 fun _=>0) 54)).alloc (.cells (WA .u64 5 fun _=>0) 247)) (w.heap.size+1) .u64 247 5 (fun _=>0):=heap_alloc2_new w _ _;have hB:Below w.heap.size w ((w.alloc (.cells (WA .u8 16 fun _=>0) 54)).alloc (.cells (WA .u64 5 fun _=>0) 247)):=((Below.refl _ w).alloc (by simp) _).alloc (by simp) _;clear hst gm;go_enter func211,ntmps211
 go_wp2_with (first|(refine Ae rfl (Ao rfl isL (by rfl) hsum) ?_)|(refine A1 isL gz (by rfl) (by rfl) ?_;intro v1 g3 o1;refine Hid.out ?_))
 replace g0:=g0.only o1 (by omega);replace hB:=hB.trans (o1.below (by omega));clear o1 gz hsum gma;have hch:=(HM.out _ hB).held
 by_cases hp:0<h
 ·have hpi:(0:Int)<(h:Int):=by omega
  refine Hid.mk ?_;go_wp2_with fail;refine AJ (fun v=>ArrAt v w.heap.size .u8 54 16 (fun _=>0)∧ArrAt v (w.heap.size+1) .u64 247 5 Z∧Below w.heap.size w v) ⟨g0,g3,hB⟩ ?_;clear g0 g3 hB hch;rintro v2 ⟨g0,g3,hB⟩;refine Ai (Below w.heap.size w) v2.heap.size
    [((w.heap.size+1),⟨Eo (WA .u64 5 Z) 247,[(10,fun ob=>∃z,Sm z∧(∃q,(qv Z 5+(dval H h+256 ^ h))*qv R 5=qv z 5+P130*q)∧ob=.cells (WA .u64 5 z) 247 (0,0))]⟩),(w.heap.size,AQ (WA .u8 16 (fun _=>0)) 54)]
    [kv (.pointer (some ⟨b,0,none⟩)),kv (.pointer (some ⟨b,0,none⟩)),kv (.pointer (some ⟨b,0,none⟩)),kv (.pointer (some ⟨b,12,none⟩)),kv (.pointer (some ⟨b,0,none⟩)),kv (.pointer (some ⟨b,0,none⟩)),kv (.pointer (some ⟨b,28,none⟩)),kv (.int .i64 (h:Int)),kv (.slice (some ⟨b,12,none⟩) h 16),.val fun v=>∃z,Sm z∧(∃q,(qv Z 5+(dval H h+256 ^ h))*qv R 5=qv z 5+P130*q)∧v=.agg (WA .u64 5 z),.val fun _=>True]
    [.none,.none,.none,.none,.none,.none,.none,.none,.none,.none,.base 0 1]
    [some 16,some 17,some 18,some 19,some 20,some 21,some 22,some 23,some 24,some 25,none]
    [(0,.pointer (some ⟨b,0,none⟩)),(3,.pointer (some ⟨(w.heap.size+1),0,none⟩))]
    [[],[],[.slot 1],[.slot 2],[],[.slot 4],[.slot 5],[.slot 6],[.slot 3,.slot 7],[.slot 0,.slot 8],[.base 0 0,.slot 9]]
    [.base 0 1,.base 1 0] [16,17,18,19,20,21,22,23,24,25]
    rfl (by kernel_rfl) ⟨rfl,rfl,trivial⟩ (Below.drew hB) (Acg _) ⟨⟨g3.lt,Al g3⟩,⟨g0.lt,Al g0⟩,trivial⟩ ⟨⟨(show ((w.heap.size+1):Nat)≠w.heap.size from by omega),trivial⟩,trivial,trivial⟩ (A8 hB.size ⟨by omega,by omega,trivial⟩)
    ⟨
     sL fun f _=>sV (Ab rfl f.1),
     sL fun f _=>sV (Ab rfl f.1),
     sL fun _ k=>sV (AO rfl k.1),
     sL fun _ kn=>sV (Hg (k:=3) rfl kn.1 (by decide)),
     sL fun f _=>sV (Ab rfl f.1),
     sL fun _ k=>sV (AO rfl k.1),
     sL fun _ kn=>sV (Hg (k:=4) rfl kn.1 (by decide)),
     (fun _ _ ww _ hS _ _ kn=>sV (At rfl kn.1 (Aw (HM.out ww hS).held))),
     sL fun _ k=>sV (Dp rfl k.1 k.2.1 (Abf b h _ HH.out)),
     (fun _ _ ww _ hS _ _ kn=>.inl ⟨trivial,fun K hK=>KC OH rfl (CT kn.1 kn.2.1) ((KV b h 16 R S Z H (h:Int) ww (HM.out ww hS) HST.out.zs HST.out.rd HST.out.hb HH.out).mono (fun e w' ⟨z,h1,h2,h3,h4⟩=>⟨_,h3,⟨z,h1,h2,rfl⟩,h4⟩)) (R:=fun v w'=>(∃z,Sm z∧(∃q,(qv Z 5+(dval H h+256 ^ h))*qv R 5=qv z 5+P130*q)∧v=.agg (WA .u64 5 z))∧Below ww.heap.size ww w') (fun v w' ⟨h1,h2⟩=>hK _ _ ⟨Ac h2,h1⟩)⟩),
     sL fun f k=>.inl ⟨trivial,fun K hK=>(by obtain⟨z,h1,h2,h3⟩:=k.2.1;exact Bs rfl isL f.2.1 h3 (Ak k.1) (fun w2 hg ho=>hK _ _ ⟨⟨Ag ho,⟨_,hg,z,h1,h2,rfl⟩⟩,trivial⟩))⟩,
     trivial⟩ ?_
  intro vs own v3 hB3 hs3 kn inj;clear inj hs3 g0 g3 hB;obtain⟨ob,hob,z,h1,⟨q,hq⟩,rfl⟩:=kn.1;have g3:ArrAt v3 (w.heap.size+1) .u64 247 5 z:=hob;have g0:ArrAt v3 w.heap.size .u8 54 16 (fun _=>0):=Ak kn.2.1;clear kn;have hB:=hB3;have HZ:=Hid.mk h1;have HQ:Hid ((qv z 5%P130+(S 0+18446744073709551616*S 1))%340282366920938463463374607431768211456=Dh key f n):=Hid.mk (HST.out.left (by omega) (q:=q) (by rw[hh];exact hq));clear h1 hq hB3;simp only[Am,Act.put,Aci,Acj,Ach];go_wp2_with fail;refine Ai (Below w.heap.size w) v3.heap.size
   [((w.heap.size+1),AQ (WA .u64 5 z) 247),(w.heap.size,once (WA .u8 16 (fun _=>0)) 54 6 (WA .u8 16 (AM ((qv z 5%P130+(S 0+18446744073709551616*S 1))%340282366920938463463374607431768211456))))]
   [kv (.agg (WA .u64 5 z)),kv (.pointer (some ⟨b,0,none⟩)),kv (.pointer (some ⟨b,0,none⟩)),kv (.pointer (some ⟨b,5,none⟩)),kv (.agg (WA .u64 2 S)),kv (.agg (WA .u8 16 (AM ((qv z 5%P130+(S 0+18446744073709551616*S 1))%340282366920938463463374607431768211456)))),.val fun _=>True]
   [.none,.none,.none,.none,.none,.none,.base 1 1]
   [some 26,some 27,some 28,some 29,some 30,some 31,none]
   [(0,.pointer (some ⟨b,0,none⟩)),(3,.pointer (some ⟨(w.heap.size+1),0,none⟩)),(2,.pointer (some ⟨w.heap.size,0,none⟩))]
   [[.base 0 0],[],[.slot 1],[.slot 2],[.slot 3],[.slot 0,.slot 4],[.base 1 0,.slot 5]]
   [.base 1 1] [26,27,28,29,30,31]
   rfl (by kernel_rfl) ⟨rfl,rfl,rfl,trivial⟩ (Below.drew hB) (Acg _) ⟨⟨g3.lt,Al g3⟩,⟨g0.lt,Al g0⟩,trivial⟩ ⟨⟨(show ((w.heap.size+1):Nat)≠w.heap.size from by omega),trivial⟩,trivial,trivial⟩ (A8 hB.size ⟨by omega,by omega,trivial⟩)
   ⟨
    sL fun f k=>sV (AA rfl isL (Ak k.1) f.2.1),
    sL fun f _=>sV (Ab rfl f.1),
    sL fun _ k=>sV (AO rfl k.1),
    sL fun _ kn=>sV (Hg (k:=1) rfl kn.1 (by decide)),
    (fun _ _ ww _ hS _ _ kn=>sV (Ao rfl AaY kn.1 (HM.out ww hS).s)),
    (fun _ _ ww _ _ _ _ kn=>.inl ⟨trivial,fun K hK=>AH ML rfl (CT kn.1 kn.2.1) (MK z S ww HZ.out HST.out.s0 HST.out.s1) (fun w' hb=>hK _ _ ⟨Ac hb,rfl⟩)⟩),
    sL fun f k=>.inl ⟨trivial,fun K hK=>Bs rfl Ck f.2.2.1 k.2.1 (Ak k.1) (fun w2 hg ho=>hK _ _ ⟨⟨Ag ho,Al hg⟩,trivial⟩)⟩,
    trivial⟩ ?_
  intro vs own v9 hB9 hs9 kn inj;clear inj hs9 g0 g3 hB;have g0:ArrAt v9 w.heap.size .u8 54 16 (AM ((qv z 5%P130+(S 0+18446744073709551616*S 1))%340282366920938463463374607431768211456)):=Ak kn.1;clear kn;simp only[Am,Act.put,Aci,Acj,Ach];rw[HQ.out] at g0;go_wp2_with fail;exact bodyPost_ret (AE results211 Ck g0 (by rfl)) rfl ⟨rfl,hB9⟩
 ·have hpi:¬((0:Int)<(h:Int)):=by omega
  have hpd:decide ((0:Int)<(h:Int))=false:=decide_eq_false hpi;have HZ:=Hid.mk HST.out.zs;have HQ:=Hid.mk (HST.out.none (by omega));refine Hid.mk ?_;go_wp2_with fail;refine AJ (fun v=>ArrAt v w.heap.size .u8 54 16 (fun _=>0)∧ArrAt v (w.heap.size+1) .u64 247 5 Z∧Below w.heap.size w v) ⟨g0,g3,hB⟩ ?_;clear g0 g3 hB hch;rintro v3 ⟨g0,g3,hB⟩;refine Ai (Below w.heap.size w) v3.heap.size
   [((w.heap.size+1),AQ (WA .u64 5 Z) 247),(w.heap.size,once (WA .u8 16 (fun _=>0)) 54 6 (WA .u8 16 (AM ((qv Z 5%P130+(S 0+18446744073709551616*S 1))%340282366920938463463374607431768211456))))]
   [kv (.agg (WA .u64 5 Z)),kv (.pointer (some ⟨b,0,none⟩)),kv (.pointer (some ⟨b,0,none⟩)),kv (.pointer (some ⟨b,5,none⟩)),kv (.agg (WA .u64 2 S)),kv (.agg (WA .u8 16 (AM ((qv Z 5%P130+(S 0+18446744073709551616*S 1))%340282366920938463463374607431768211456)))),.val fun _=>True]
   [.none,.none,.none,.none,.none,.none,.base 1 1]
   [some 26,some 27,some 28,some 29,some 30,some 31,none]
   [(0,.pointer (some ⟨b,0,none⟩)),(3,.pointer (some ⟨(w.heap.size+1),0,none⟩)),(2,.pointer (some ⟨w.heap.size,0,none⟩))]
   [[.base 0 0],[],[.slot 1],[.slot 2],[.slot 3],[.slot 0,.slot 4],[.base 1 0,.slot 5]]
   [.base 1 1] [26,27,28,29,30,31]
   rfl (by kernel_rfl) ⟨rfl,rfl,rfl,trivial⟩ (Below.drew hB) (Acg _) ⟨⟨g3.lt,Al g3⟩,⟨g0.lt,Al g0⟩,trivial⟩ ⟨⟨(show ((w.heap.size+1):Nat)≠w.heap.size from by omega),trivial⟩,trivial,trivial⟩ (A8 hB.size ⟨by omega,by omega,trivial⟩)
   ⟨
    sL fun f k=>sV (AA rfl isL (Ak k.1) f.2.1),
    sL fun f _=>sV (Ab rfl f.1),
    sL fun _ k=>sV (AO rfl k.1),
    sL fun _ kn=>sV (Hg (k:=1) rfl kn.1 (by decide)),
    (fun _ _ ww _ hS _ _ kn=>sV (Ao rfl AaY kn.1 (HM.out ww hS).s)),
    (fun _ _ ww _ _ _ _ kn=>.inl ⟨trivial,fun K hK=>AH ML rfl (CT kn.1 kn.2.1) (MK Z S ww HZ.out HST.out.s0 HST.out.s1) (fun w' hb=>hK _ _ ⟨Ac hb,rfl⟩)⟩),
    sL fun f k=>.inl ⟨trivial,fun K hK=>Bs rfl Ck f.2.2.1 k.2.1 (Ak k.1) (fun w2 hg ho=>hK _ _ ⟨⟨Ag ho,Al hg⟩,trivial⟩)⟩,
    trivial⟩ ?_
  intro vs own v9 hB9 hs9 kn inj;clear inj hs9 g0 g3 hB;have g0:ArrAt v9 w.heap.size .u8 54 16 (AM ((qv Z 5%P130+(S 0+18446744073709551616*S 1))%340282366920938463463374607431768211456)):=Ak kn.1;clear kn;simp only[Am,Act.put,Aci,Acj,Ach];rw[HQ.out] at g0;go_wp2_with fail;exact bodyPost_ret (AE results211 Ck g0 (by rfl)) rfl ⟨rfl,hB9⟩
theorem Y3(key:Nat→Int)(v:Value)(cnt:Nat)(ts:Nat→ByteArray)(w:World)(hk:Byts 32 key)(hv:Strs w v cnt ts)(hn:cnt<4611686018427387904):Calls prog 188 #[.agg (WA .u8 32 key),v] w fun e w'=>e=.returned (.agg (WA .u8 16 (AM (Dh key (txt (AY ts cnt)) (AY ts cnt).size))))∧Below w.heap.size w w':=by
 have g0:ArrAt ((w.alloc (.cells (WA .u8 32 key) 22)).alloc (.cells (WA .u8 16 fun _=>0) 54)) w.heap.size .u8 22 32 key:=heap_alloc2_old w _ _;have g1:ArrAt ((w.alloc (.cells (WA .u8 32 key) 22)).alloc (.cells (WA .u8 16 fun _=>0) 54)) (w.heap.size+1) .u8 54 16 (fun _=>0):=heap_alloc2_new w _ _;have hB:Below w.heap.size w ((w.alloc (.cells (WA .u8 32 key) 22)).alloc (.cells (WA .u8 16 fun _=>0) 54)):=((Below.refl _ w).alloc (by simp) _).alloc (by simp) _;go_enter func188,ntmps188
 go_wp2_with (refine Aq Af g0 (by rfl) ?_)
 refine(Y1 key (fun _=>0) _ hk).mono ?_;rintro e v1 ⟨b,hb,rfl,hM,hb1⟩;have hz1:=g1.lt;replace g1:=g1.kept hb1;replace hB:=hB.trans (hb1.mono hB.size);have hzb:w.heap.size+1+1≤b:=by simpa using hb
 have hv1:∀w',Touch (fun x=>x=b) v1 w'→Strs w' v cnt ts:=fun w' ht=>hv.kept (fun k hk=>(ht.block k (by have:=hB.size;omega) (by omega)).trans (hB.block k hk))
 clear hb1 g0 hb hz1;go_wp2_with fail;refine(Tr b key (fun _=>0) 0 v cnt ts v1 hM hv1 hn).mono ?_;rintro e v2 ⟨rfl,hM2,ht2⟩;rw[AbP,Acl] at hM2;replace g1:=g1.touch ht2 (by omega);replace hB:=AU hB ht2 (by omega) (Acg _);clear ht2 hM hv1;go_wp2_with fail;refine(Y2 b key _ _ v2 hM2).mono ?_;rintro e v3 ⟨rfl,hb3⟩;replace g1:=g1.kept hb3;replace hB:=hB.trans (hb3.mono hB.size);clear hb3 hM2
 go_wp2_with (refine A1 Ck g1 (by rfl) (by rfl) ?_;intro v4 g4 o4;refine Hid.out ?_)
 refine Hid.mk ?_;go_wp2_with fail;exact bodyPost_ret (AE results188 Ck g4 (by rfl)) rfl ⟨rfl,hB.trans (o4.below (by omega))⟩
-- awake
theorem NI:Da 177 8:=⟨_,_,underlying177,by kernel_rfl⟩
theorem Y4(n:Int)(i:Nat):n/256 ^ i/256=n/256 ^ (i+1):=by
 rw[Acr,AcO (Ac4 (G8 i))]
theorem Ih(n:Int)(w:World)(hn:0≤n∧n<18446744073709551616):Calls prog 130 #[.int .u64 n] w fun e w'=>e=.returned (.string (mkS 8 (AM n)))∧Below w.heap.size w w':=by
 have g0:ArrAt (w.alloc (.cells (WA .u8 8 fun _=>0) 177)) w.heap.size .u8 177 8 (fun _=>0):=heap_alloc_new w _;have hB:Below w.heap.size w (w.alloc (.cells (WA .u8 8 fun _=>0) 177)):=(Below.refl _ w).alloc (Acg _) _;go_enter func130,ntmps130;go_wp2_with fail
 go_loopg [0,4] 8 (fun gm nv iv v=>∃i:Nat,Hid (gm+i=8)∧iv=.int .i64 (i:Int)∧nv=.int .u64 (n/256 ^ i)∧ArrAt v w.heap.size .u8 177 8 (fun j=>if j<i then AM n j else 0)∧Below w.heap.size w v)
 case atStart=>exact⟨0,Hid.mk rfl,rfl,by simp,g0.congr (fun j _=>by rw[if_neg (by omega)]),hB⟩
 case round =>
  clear g0 hB;obtain⟨i,HI,rfl,rfl,g0,hB⟩:=hrel;have hi8:i≤8:=by have:=HI.out;omega
  have hq0:0≤n/256 ^ i:=Int.ediv_nonneg hn.1 (Ac4 (G8 i));have hq1:n/256 ^ i<18446744073709551616:=Int.lt_of_le_of_lt (Int.ediv_le_self _ hn.1) hn.2
  by_cases hil:i<8
  ·have c0:=g0.cell i hil
   have f0:=g0.free i
   have g2:=Hid.mk ((g0.set i (n/256 ^ i%256) hil).congr (s':=fun j=>if j<i+1 then AM n j else 0) (fun j _=>by
    unfold upd
    by_cases e:j=i
    ·subst e;rw[if_pos rfl,if_pos (by omega)];rfl
    ·rw[if_neg e]
     show (if j<i then AM n j else 0)=_
     by_cases h:j<i
     ·rw[if_pos h,if_pos (by omega)]
     ·rw[if_neg h,if_neg (by omega)]))
   have HD:=Hid.mk (Y4 n i);generalize n/256 ^ i=q at *;go_wp2_with fail
   go_roundg (8-(i+1))
   case rel=>exact⟨i+1,Hid.mk (by omega),by go_num,by rw[←HD.out],g2.out,Below.setCell (p:=⟨w.heap.size,i,none⟩) hB (by simp) _⟩
   case measure=>have:=HI.out;omega
  ·have hi2:i=8:=by omega
   subst hi2;replace g0:=g0.congr (s':=AM n) (fun j hj=>by rw[if_pos hj]);have hcv:=AD 8 w.heap.size 8 wr 8 (AM n) g0.row (fun j _=>Ej n j) rfl;clear hq0 hq1;go_wp2_with fail
   go_ret
   exact⟨rfl,hB⟩
def Fx(s:ByteArray):ByteArray:=s++mkS ((16-s.size%16)%16) (fun _=>0)
theorem KX(s:ByteArray)(w:World)(hs:s.size≤1152921504606846976):Calls prog 163 #[.string s] w fun e w'=>e=.returned (.string (Fx s))∧Below w.heap.size w w':=by
 obtain⟨k,hk⟩:∃k,(16-s.size%16)%16=k:=⟨_,rfl⟩;have hm:=run_make_row' (P:=prog) 81 5 (.int .u8 0) 1 underlying81 infoByte rfl .i64 .i64 k (by omega) (by omega) w;rw[Rj] at hm;have h3:-((s.size:Int)%16)%16=(k:Int):=by omega
 have hcat:(s.size:Int)+((mkS k fun _=>0).size:Int)≤9223372036854775807:=by rw[Ar];omega
 have hcat2:s.size+(mkS k fun _=>0).size≤9223372036854775807:=by omega
 have hE:s++mkS k (fun _=>0)=Fx s:=by unfold Fx;rw[hk]
 have HE:=Hid.mk hE;have h1:(s.size:Int).tmod 16=((s.size%16:Nat):Int):=by rw[Acz (by omega)];omega
 have h2:(16-((s.size%16:Nat):Int)).tmod 16=((k:Nat):Int):=by rw[Acz (by omega)];omega
 have g0:ArrAt (w.alloc (.cells (WA .u8 k fun _=>0) 5)) w.heap.size .u8 5 k (fun _=>0):=heap_alloc_new w _;have hcv:=AD k w.heap.size k _ k (fun _=>0) g0.row (fun j _=>by omega) rfl;go_enter func163,ntmps163;have hB:Below w.heap.size w (w.alloc (.cells (WA .u8 k fun _=>0) 5)):=(Below.refl _ w).alloc (Acg _) _;clear h1 h2 hk hE;generalize (mkS k fun _=>0)=z at *;go_wp2_with fail;rw[HE.out]
 go_ret
 exact⟨rfl,hB⟩
theorem K0(x:Int)(n:Nat)(w:World)(hx:W32 x)(hn:n=7∨n=8∨n=12∨n=16):Calls prog 226 #[.int .u32 x,.int .i64 n] w fun e w'=>e=.returned (.int .u32 (CA x n))∧w'=w:=by
 have key:∀p q:Int,p=((2 ^ n:Nat):Int)→q=((2 ^ (32-n):Nat):Int)→bits .or .u32 (x*p%4294967296) (x/q)=CA x n:=fun p q=>Rl x n hx p q
 unfold W32 at hx;go_enter func226,ntmps226
 rcases hn with rfl | rfl | rfl | rfl
 ·have e1:bits .and .u64 7 31=7:=by decide
  have e2:=key 128 33554432 (by decide) (by decide);go_wp2
  go_ret
  exact⟨rfl,rfl⟩
 ·have e1:bits .and .u64 8 31=8:=by decide
  have e2:=key 256 16777216 (by decide) (by decide);go_wp2
  go_ret
  exact⟨rfl,rfl⟩
 ·have e1:bits .and .u64 12 31=12:=by decide
  have e2:=key 4096 1048576 (by decide) (by decide);go_wp2
  go_ret
  exact⟨rfl,rfl⟩
 ·have e1:bits .and .u64 16 31=16:=by decide
  have e2:=key 65536 65536 (by decide) (by decide);go_wp2
  go_ret
  exact⟨rfl,rfl⟩
theorem CD(a b c d:Int)(w:World)(_ha:W32 a)(hb:W32 b)(_hc:W32 c)(hd:W32 d):Calls prog 216 #[.int .u32 a,.int .u32 b,.int .u32 c,.int .u32 d] w fun e w' => e=.returned (.tuple #[.int .u32 (Fu ⟨a,b,c,d⟩).a,.int .u32 (Fu ⟨a,b,c,d⟩).b,.int .u32 (Fu ⟨a,b,c,d⟩).c,.int .u32 (Fu ⟨a,b,c,d⟩).d])∧w'=w:=by
 unfold Fu UN;dsimp only;obtain⟨a1,h1⟩:∃y,Bb a b=y:=⟨_,rfl⟩;rw[h1];have ha1:=h1▸BG a b;obtain⟨x1,g1⟩:∃y,Ap d a1=y:=⟨_,rfl⟩;rw[g1];have hx1:=g1▸A9 hd ha1;rw[←Cj hd ha1] at g1;obtain⟨d1,k1⟩:∃y,CA x1 16=y:=⟨_,rfl⟩;rw[k1];have hd1:=k1▸Fm 16 hx1;obtain⟨c1,h2⟩:∃y,Bb c d1=y:=⟨_,rfl⟩;rw[h2];have hc1:=h2▸BG c d1;obtain⟨x2,g2⟩:∃y,Ap b c1=y:=⟨_,rfl⟩;rw[g2];have hx2:=g2▸A9 hb hc1;rw[←Cj hb hc1] at g2;obtain⟨b1,k2⟩:∃y,CA x2 12=y:=⟨_,rfl⟩;rw[k2];have hb1:=k2▸Fm 12 hx2;obtain⟨a2,h3⟩:∃y,Bb a1 b1=y:=⟨_,rfl⟩;rw[h3];have ha2:=h3▸BG a1 b1;obtain⟨x3,g3⟩:∃y,Ap d1 a2=y:=⟨_,rfl⟩;rw[g3];have hx3:=g3▸A9 hd1 ha2;rw[←Cj hd1 ha2] at g3;obtain⟨d2,k3⟩:∃y,CA x3 8=y:=⟨_,rfl⟩;rw[k3];have hd2:=k3▸Fm 8 hx3;obtain⟨c2,h4⟩:∃y,Bb c1 d2=y:=⟨_,rfl⟩;rw[h4];have hc2:=h4▸BG c1 d2;obtain⟨x4,g4⟩:∃y,Ap b1 c2=y:=⟨_,rfl⟩;rw[g4];have hx4:=g4▸A9 hb1 hc2;rw[←Cj hb1 hc2] at g4;obtain⟨b2,k4⟩:∃y,CA x4 7=y:=⟨_,rfl⟩;rw[k4];unfold Bb at h1 h2 h3 h4;have r1:Calls prog 226 #[.int .u32 x1,.int .i64 16] w fun e w'=>e=.returned (.int .u32 (CA x1 16))∧w'=w:=K0 x1 16 w hx1 (by decide)
 have r2:Calls prog 226 #[.int .u32 x2,.int .i64 12] w fun e w'=>e=.returned (.int .u32 (CA x2 12))∧w'=w:=K0 x2 12 w hx2 (by decide)
 have r3:Calls prog 226 #[.int .u32 x3,.int .i64 8] w fun e w'=>e=.returned (.int .u32 (CA x3 8))∧w'=w:=K0 x3 8 w hx3 (by decide)
 have r4:Calls prog 226 #[.int .u32 x4,.int .i64 7] w fun e w'=>e=.returned (.int .u32 (CA x4 7))∧w'=w:=K0 x4 7 w hx4 (by decide)
 rw[k1] at r1;rw[k2] at r2;rw[k3] at r3;rw[k4] at r4;clear k1 k2 k3 k4;unfold W32 at *;go_enter func216,ntmps216;go_wp2_with fail;refine r1.mono ?_;rintro e w1 ⟨rfl,rfl⟩;go_wp2_with fail;refine r2.mono ?_;rintro e w2 ⟨rfl,rfl⟩;go_wp2_with fail;refine r3.mono ?_;rintro e w3 ⟨rfl,rfl⟩;go_wp2_with fail;refine r4.mono ?_;rintro e w4 ⟨rfl,rfl⟩;go_wp2_with fail;exact bodyPost_ret (v:=.tuple #[.int .u32 a2,.int .u32 b2,.int .u32 c2,.int .u32 d2]) (by simp[results,results216,go_sem]) rfl ⟨rfl,rfl⟩
theorem GC{a:Act}{o:Oper}{w:World}{x:Operand}(ho:o.op=.binOp .rem 3 x (.const (.int .i64 4294967296)) 3){m:Int}(hx:a.eval x=.int .i64 m)(h0:0≤m)(_h1:m<9223372036854775808):(execOp a.eval o).run prog w=.ok (.value (.int .i64 (m%4294967296))) w:=
 BN ho rfl hx rfl (by
  have e:Int.tmod m 4294967296=m%4294967296:=Acz h0;simp[go_sem,e])
theorem Ts(x:Int)(n:Nat)(hx:W32 x)(p q:Int)(hp:p=((2 ^ n:Nat):Int))(hq:q=((2 ^ (32-n):Nat):Int)):bits .or .i64 (x*p%4294967296) (x/q)=CA x n:=by
 unfold W32 at hx;obtain⟨m,rfl⟩:=Ac3 hx.1;subst hp;subst hq;have e1:(m:Int)*((2 ^ n:Nat):Int)%4294967296=((m*2 ^ n%4294967296:Nat):Int):=by simp
 have e2:(m:Int)/((2 ^ (32-n):Nat):Int)=((m/2 ^ (32-n):Nat):Int):=by simp
 have h1:=Nat.mod_lt (m*2 ^ n) (show 4294967296 > 0 by decide);have h2:m/2 ^ (32-n)<4294967296:=Nat.lt_of_le_of_lt (Nat.div_le_self _ _) (by omega);rw[e1,e2,UH ⟨Int.natCast_nonneg _,Int.ofNat_lt.2 h1⟩ ⟨Int.natCast_nonneg _,Int.ofNat_lt.2 h2⟩];simp only[AcB,CA]
theorem IG(x:Int)(n:Nat)(w:World)(hx:W32 x)(hn:n=7∨n=8∨n=12∨n=16):Calls prog 217 #[.int .i64 x,.int .i64 n] w fun e w'=>e=.returned (.int .i64 (CA x n))∧Below w.heap.size w w':=by
 have key:∀p q:Int,p=((2 ^ n:Nat):Int)→q=((2 ^ (32-n):Nat):Int)→bits .or .i64 (x*p%4294967296) (x/q)=CA x n:=fun p q=>Ts x n hx p q
 unfold W32 at hx;go_enter func217,ntmps217
 rcases hn with rfl | rfl | rfl | rfl
 ·have e2:=key 128 33554432 (by decide) (by decide)
  have e3:(x*128).tmod 4294967296=x*128%4294967296:=Acz (by omega);go_wp2
  go_region
  go_wp2
  go_ret
  exact⟨rfl,(Below.refl _ _).drew⟩
 ·have e2:=key 256 16777216 (by decide) (by decide)
  have e3:(x*256).tmod 4294967296=x*256%4294967296:=Acz (by omega);go_wp2
  go_region
  go_wp2
  go_ret
  exact⟨rfl,(Below.refl _ _).drew⟩
 ·have e2:=key 4096 1048576 (by decide) (by decide)
  have e3:(x*4096).tmod 4294967296=x*4096%4294967296:=Acz (by omega);go_wp2
  go_region
  go_wp2
  go_ret
  exact⟨rfl,(Below.refl _ _).drew⟩
 ·have e2:=key 65536 65536 (by decide) (by decide)
  have e3:(x*65536).tmod 4294967296=x*65536%4294967296:=Acz (by omega);go_wp2
  go_region
  go_wp2
  go_ret
  exact⟨rfl,(Below.refl _ _).drew⟩
theorem Hh(args:Array Value)(w:World):(callFunc 217 args).run prog w=.ok (.enter 217 args) w:=by kernel_rfl
theorem KY{x y:Int}(hx:W32 x)(hy:W32 y):0≤x+y:=by unfold W32 at *;omega
theorem Qk(s:Nat→Int)(a b c d:Nat)(hab:a≠b)(hac:a≠c)(had:a≠d)(hbc:b≠c)(hbd:b≠d)(hcd:c≠d){s1 s2 s3 s4 s5 s6 s7 s8:Nat→Int}(h1:upd s a (Bb (s a) (s b))=s1)(h2:upd s1 d (CA (Ap (s1 d) (s1 a)) 16)=s2)(h3:upd s2 c (Bb (s2 c) (s2 d))=s3)(h4:upd s3 b (CA (Ap (s3 b) (s3 c)) 12)=s4)(h5:upd s4 a (Bb (s4 a) (s4 b))=s5)(h6:upd s5 d (CA (Ap (s5 d) (s5 a)) 8)=s6)(h7:upd s6 c (Bb (s6 c) (s6 d))=s7)(h8:upd s7 b (CA (Ap (s7 b) (s7 c)) 7)=s8):s8=Dm s a b c d:=by
 have key:∀(f:Nat→Int) (x:Nat) (v:Int),upd f x v x=v:=fun f x v=>by simp[upd]
 have oth:∀(f:Nat→Int) (x y:Nat) (v:Int),y≠x→upd f x v y=f y:=fun f x y v h=>by simp[upd,h]
 have a1:s1 a=Bb (s a) (s b):=by rw[←h1,key]
 have b1:s1 b=s b:=by rw[←h1,oth _ _ _ _ hab.symm]
 have c1:s1 c=s c:=by rw[←h1,oth _ _ _ _ hac.symm]
 have d1:s1 d=s d:=by rw[←h1,oth _ _ _ _ had.symm]
 have a2:s2 a=s1 a:=by rw[←h2,oth _ _ _ _ had]
 have b2:s2 b=s b:=by rw[←h2,oth _ _ _ _ hbd,b1]
 have c2:s2 c=s c:=by rw[←h2,oth _ _ _ _ hcd,c1]
 have d2:s2 d=CA (Ap (s1 d) (s1 a)) 16:=by rw[←h2,key]
 have a3:s3 a=s2 a:=by rw[←h3,oth _ _ _ _ hac]
 have b3:s3 b=s b:=by rw[←h3,oth _ _ _ _ hbc,b2]
 have c3:s3 c=Bb (s2 c) (s2 d):=by rw[←h3,key]
 have d3:s3 d=s2 d:=by rw[←h3,oth _ _ _ _ hcd.symm]
 have a4:s4 a=s3 a:=by rw[←h4,oth _ _ _ _ hab]
 have b4:s4 b=CA (Ap (s3 b) (s3 c)) 12:=by rw[←h4,key]
 have c4:s4 c=s3 c:=by rw[←h4,oth _ _ _ _ hbc.symm]
 have d4:s4 d=s3 d:=by rw[←h4,oth _ _ _ _ hbd.symm]
 have a5:s5 a=Bb (s4 a) (s4 b):=by rw[←h5,key]
 have b5:s5 b=s4 b:=by rw[←h5,oth _ _ _ _ hab.symm]
 have c5:s5 c=s4 c:=by rw[←h5,oth _ _ _ _ hac.symm]
 have d5:s5 d=s4 d:=by rw[←h5,oth _ _ _ _ had.symm]
 have a6:s6 a=s5 a:=by rw[←h6,oth _ _ _ _ had]
 have b6:s6 b=s5 b:=by rw[←h6,oth _ _ _ _ hbd]
 have c6:s6 c=s5 c:=by rw[←h6,oth _ _ _ _ hcd]
 have d6:s6 d=CA (Ap (s5 d) (s5 a)) 8:=by rw[←h6,key]
 have a7:s7 a=s6 a:=by rw[←h7,oth _ _ _ _ hac]
 have b7:s7 b=s6 b:=by rw[←h7,oth _ _ _ _ hbc]
 have c7:s7 c=Bb (s6 c) (s6 d):=by rw[←h7,key]
 have d7:s7 d=s6 d:=by rw[←h7,oth _ _ _ _ hcd.symm]
 have a8:s8 a=s7 a:=by rw[←h8,oth _ _ _ _ hab]
 have b8:s8 b=CA (Ap (s7 b) (s7 c)) 7:=by rw[←h8,key]
 have c8:s8 c=s7 c:=by rw[←h8,oth _ _ _ _ hbc.symm]
 have d8:s8 d=s7 d:=by rw[←h8,oth _ _ _ _ hbd.symm]
 have hq:Fu ⟨s a,s b,s c,s d⟩=⟨s8 a,s8 b,s8 c,s8 d⟩:=by
  simp only[Fu,UN];rw[a8,b8,c8,d8,a7,b7,c7,d7,a6,b6,c6,d6,a5,b5,c5,d5,a4,b4,c4,d4,a3,b3,c3,d3,a2,c2,d2,a1,d1]
 funext i
 unfold Dm;rw[hq]
 by_cases ia:i=a
 ·subst ia;rw[oth _ _ _ _ had,oth _ _ _ _ hac,oth _ _ _ _ hab,key]
 by_cases ib:i=b
 ·subst ib;rw[oth _ _ _ _ hbd,oth _ _ _ _ hbc,key]
 by_cases ic:i=c
 ·subst ic;rw[oth _ _ _ _ hcd,key]
 by_cases id:i=d
 ·subst id;rw[key]
 rw[oth _ _ _ _ id,oth _ _ _ _ ic,oth _ _ _ _ ib,oth _ _ _ _ ia];rw[←h8,oth _ _ _ _ ib,←h7,oth _ _ _ _ ic,←h6,oth _ _ _ _ id,←h5,oth _ _ _ _ ia,←h4,oth _ _ _ _ ib,←h3,oth _ _ _ _ ic,←h2,oth _ _ _ _ id,←h1,oth _ _ _ _ ia]
theorem IH(b n cp:Nat)(s0:Nat→Int)(a y c d:Nat)(w:World)(hR:RowAt w b .i64 3 n s0)(Ws0:∀i,i<n→W32 (s0 i))(ha:a<n)(hy:y<n)(hc:c<n)(hd:d<n)(hab:a≠y)(hac:a≠c)(had:a≠d)(hbc:y≠c)(hbd:y≠d)(hcd:c≠d):Calls prog 203 #[.slice (some ⟨b,0,none⟩) n cp,.int .i64 (a:Int),.int .i64 (y:Int),.int .i64 (c:Int),.int .i64 (d:Int)] w fun e w' => e=.returned (.tuple #[])∧RowAt w' b .i64 3 n (Dm s0 a y c d)∧Touch (fun k=>k=b) w w':=by
 have hT:=Touch.refl (fun k=>k=b) w;go_enter func203,ntmps203;obtain⟨s1,hs1⟩:∃f,upd s0 a (Bb (s0 a) (s0 y))=f:=⟨_,rfl⟩;have Ws1:∀i,i<n→W32 (s1 i):=by rw[←hs1];exact Bd Ws0 (BG _ _)
 go_wp2_with fail;refine Ai (Touch (fun k=>k=b) w) w.heap.size
  [(b,⟨B5 .i64 3 n s0,[(13,B5 .i64 3 n s1)]⟩)]
  [kv (.slice (some ⟨b,0,none⟩) n cp),kv (.int .i64 (a:Int)),kv (.slice (some ⟨b,0,none⟩) n cp),kv (.int .i64 (a:Int)),kv (.pointer (some ⟨b,0+a,none⟩)),kv (.int .i64 (s0 a)),kv (.slice (some ⟨b,0,none⟩) n cp),kv (.int .i64 (y:Int)),kv (.pointer (some ⟨b,0+y,none⟩)),kv (.int .i64 (s0 y)),kv (.int .i64 (s0 a+s0 y)),kv (.int .i64 (Bb (s0 a) (s0 y))),kv (.pointer (some ⟨b,0+a,none⟩)),.val fun _=>True]
  [.none,.none,.none,.none,.none,.none,.none,.none,.none,.none,.none,.none,.none,.base 0 1]
  [some 10,some 11,some 12,some 13,some 14,some 15,some 16,some 17,some 18,some 19,some 20,some 21,some 22,none]
  [(0,.slice (some ⟨b,0,none⟩) n cp),(1,.int .i64 (a:Int)),(2,.int .i64 (y:Int))]
  [[],[],[],[],[.slot 2,.slot 3],[.slot 4,.base 0 0],[],[],[.slot 6,.slot 7],[.slot 8,.base 0 0],[.slot 5,.slot 9],[.slot 10],[.slot 0,.slot 1],[.slot 12,.base 0 0,.slot 11]]
  [.base 0 1] [10,11,12,13,14,15,16,17,18,19,20,21,22]
  rfl (by kernel_rfl) ⟨rfl,rfl,rfl,trivial⟩ (Touch.drew hT) (Acg _) ⟨⟨RowAt.lt hR,hR⟩,trivial⟩ ⟨trivial,trivial⟩ (Cb hT.size)
  ⟨
   sL fun f _=>sV (Ab rfl f.1),
   sL fun f _=>sV (Ab rfl f.2.1),
   sL fun f _=>sV (Ab rfl f.1),
   sL fun f _=>sV (Ab rfl f.2.1),
   sL fun _ k=>sV (An rfl underlying171 As k.1 k.2.1 ha),
   sL fun _ k=>sV (At rfl k.1 (Aw (Ba k.2.1 ha))),
   sL fun f _=>sV (Ab rfl f.1),
   sL fun f _=>sV (Ab rfl f.2.2.1),
   sL fun _ k=>sV (An rfl underlying171 As k.1 k.2.1 hy),
   sL fun _ k=>sV (At rfl k.1 (Aw (Ba k.2.1 hy))),
   sL fun _ k=>sV (BO rfl k.1 k.2.1 (FD (Ws0 a ha) (Ws0 y hy)) (DD (Ws0 a ha) (Ws0 y hy))),
   sL fun _ k=>sV (GC rfl k.1 (KY (Ws0 a ha) (Ws0 y hy)) (DD (Ws0 a ha) (Ws0 y hy))),
   sL fun _ k=>sV (An rfl underlying171 As k.1 k.2.1 ha),
   sL fun _ k=>.inl ⟨trivial,fun K hK=>BQ rfl (Gl k.1) k.2.2.1 k.2.1 ha (fun w2 hg ho=>hK _ _ ⟨⟨Ag ho,hs1▸hg⟩,trivial⟩)⟩,
   trivial⟩ ?_
 intro vs0 own v1 hT0 hs0 kn inj;clear inj;replace hR:RowAt v1 b .i64 3 n s1:=kn.1;clear kn hs0;replace hT:=hT0;clear hT0 own;simp only[Am,Act.put,Aci,Acj,Ach];obtain⟨s2,hs2⟩:∃f,upd s1 d (CA (Ap (s1 d) (s1 a)) 16)=f:=⟨_,rfl⟩;have Ws2:∀i,i<n→W32 (s2 i):=by rw[←hs2];exact Bd Ws1 (Fm 16 (A9 (Ws1 d hd) (Ws1 a ha)))
 go_wp2_with fail;refine Ai (Touch (fun k=>k=b) w) v1.heap.size
  [(b,⟨B5 .i64 3 n s1,[(13,B5 .i64 3 n s2)]⟩)]
  [kv (.slice (some ⟨b,0,none⟩) n cp),kv (.int .i64 (d:Int)),kv (.slice (some ⟨b,0,none⟩) n cp),kv (.int .i64 (d:Int)),kv (.pointer (some ⟨b,0+d,none⟩)),kv (.int .i64 (s1 d)),kv (.slice (some ⟨b,0,none⟩) n cp),kv (.int .i64 (a:Int)),kv (.pointer (some ⟨b,0+a,none⟩)),kv (.int .i64 (s1 a)),kv (.int .i64 (Ap (s1 d) (s1 a))),kv (.int .i64 (CA (Ap (s1 d) (s1 a)) 16)),kv (.pointer (some ⟨b,0+d,none⟩)),.val fun _=>True]
  [.none,.none,.none,.none,.none,.none,.none,.none,.none,.none,.none,.none,.none,.base 0 1]
  [some 23,some 24,some 25,some 26,some 27,some 28,some 29,some 30,some 31,some 32,some 33,some 34,some 35,none]
  [(0,.slice (some ⟨b,0,none⟩) n cp),(4,.int .i64 (d:Int)),(1,.int .i64 (a:Int))]
  [[],[],[],[],[.slot 2,.slot 3],[.slot 4,.base 0 0],[],[],[.slot 6,.slot 7],[.slot 8,.base 0 0],[.slot 5,.slot 9],[.slot 10],[.slot 0,.slot 1],[.slot 12,.base 0 0,.slot 11]]
  [.base 0 1] [23,24,25,26,27,28,29,30,31,32,33,34,35]
  rfl (by kernel_rfl) ⟨rfl,rfl,rfl,trivial⟩ (Touch.drew hT) (Acg _) ⟨⟨RowAt.lt hR,hR⟩,trivial⟩ ⟨trivial,trivial⟩ (Cb hT.size)
  ⟨
   sL fun f _=>sV (Ab rfl f.1),
   sL fun f _=>sV (Ab rfl f.2.1),
   sL fun f _=>sV (Ab rfl f.1),
   sL fun f _=>sV (Ab rfl f.2.1),
   sL fun _ k=>sV (An rfl underlying171 As k.1 k.2.1 hd),
   sL fun _ k=>sV (At rfl k.1 (Aw (Ba k.2.1 hd))),
   sL fun f _=>sV (Ab rfl f.1),
   sL fun f _=>sV (Ab rfl f.2.2.1),
   sL fun _ k=>sV (An rfl underlying171 As k.1 k.2.1 ha),
   sL fun _ k=>sV (At rfl k.1 (Aw (Ba k.2.1 ha))),
   sL fun _ k=>sV (CJ rfl k.1 k.2.1 (Ws1 d hd) (Ws1 a ha)),
   sL fun _ k=>.inl ⟨trivial,fun K hK=>AH Hh rfl (CT k.1 rfl) (IG _ 16 _ (A9 (Ws1 d hd) (Ws1 a ha)) (by decide)) (fun w' hb=>hK _ _ ⟨Ac hb,rfl⟩)⟩,
   sL fun _ k=>sV (An rfl underlying171 As k.1 k.2.1 hd),
   sL fun _ k=>.inl ⟨trivial,fun K hK=>BQ rfl (Gl k.1) k.2.2.1 k.2.1 hd (fun w2 hg ho=>hK _ _ ⟨⟨Ag ho,hs2▸hg⟩,trivial⟩)⟩,
   trivial⟩ ?_
 intro vs1 own v2 hT1 hs1 kn inj;clear inj;replace hR:RowAt v2 b .i64 3 n s2:=kn.1;clear kn hs1;replace hT:=hT1;clear hT1 own;simp only[Am,Act.put,Aci,Acj,Ach];obtain⟨s3,hs3⟩:∃f,upd s2 c (Bb (s2 c) (s2 d))=f:=⟨_,rfl⟩;have Ws3:∀i,i<n→W32 (s3 i):=by rw[←hs3];exact Bd Ws2 (BG _ _)
 go_wp2_with fail;refine Ai (Touch (fun k=>k=b) w) v2.heap.size
  [(b,⟨B5 .i64 3 n s2,[(13,B5 .i64 3 n s3)]⟩)]
  [kv (.slice (some ⟨b,0,none⟩) n cp),kv (.int .i64 (c:Int)),kv (.slice (some ⟨b,0,none⟩) n cp),kv (.int .i64 (c:Int)),kv (.pointer (some ⟨b,0+c,none⟩)),kv (.int .i64 (s2 c)),kv (.slice (some ⟨b,0,none⟩) n cp),kv (.int .i64 (d:Int)),kv (.pointer (some ⟨b,0+d,none⟩)),kv (.int .i64 (s2 d)),kv (.int .i64 (s2 c+s2 d)),kv (.int .i64 (Bb (s2 c) (s2 d))),kv (.pointer (some ⟨b,0+c,none⟩)),.val fun _=>True]
  [.none,.none,.none,.none,.none,.none,.none,.none,.none,.none,.none,.none,.none,.base 0 1]
  [some 36,some 37,some 38,some 39,some 40,some 41,some 42,some 43,some 44,some 45,some 46,some 47,some 48,none]
  [(0,.slice (some ⟨b,0,none⟩) n cp),(3,.int .i64 (c:Int)),(4,.int .i64 (d:Int))]
  [[],[],[],[],[.slot 2,.slot 3],[.slot 4,.base 0 0],[],[],[.slot 6,.slot 7],[.slot 8,.base 0 0],[.slot 5,.slot 9],[.slot 10],[.slot 0,.slot 1],[.slot 12,.base 0 0,.slot 11]]
  [.base 0 1] [36,37,38,39,40,41,42,43,44,45,46,47,48]
  rfl (by kernel_rfl) ⟨rfl,rfl,rfl,trivial⟩ (Touch.drew hT) (Acg _) ⟨⟨RowAt.lt hR,hR⟩,trivial⟩ ⟨trivial,trivial⟩ (Cb hT.size)
  ⟨
   sL fun f _=>sV (Ab rfl f.1),
   sL fun f _=>sV (Ab rfl f.2.1),
   sL fun f _=>sV (Ab rfl f.1),
   sL fun f _=>sV (Ab rfl f.2.1),
   sL fun _ k=>sV (An rfl underlying171 As k.1 k.2.1 hc),
   sL fun _ k=>sV (At rfl k.1 (Aw (Ba k.2.1 hc))),
   sL fun f _=>sV (Ab rfl f.1),
   sL fun f _=>sV (Ab rfl f.2.2.1),
   sL fun _ k=>sV (An rfl underlying171 As k.1 k.2.1 hd),
   sL fun _ k=>sV (At rfl k.1 (Aw (Ba k.2.1 hd))),
   sL fun _ k=>sV (BO rfl k.1 k.2.1 (FD (Ws2 c hc) (Ws2 d hd)) (DD (Ws2 c hc) (Ws2 d hd))),
   sL fun _ k=>sV (GC rfl k.1 (KY (Ws2 c hc) (Ws2 d hd)) (DD (Ws2 c hc) (Ws2 d hd))),
   sL fun _ k=>sV (An rfl underlying171 As k.1 k.2.1 hc),
   sL fun _ k=>.inl ⟨trivial,fun K hK=>BQ rfl (Gl k.1) k.2.2.1 k.2.1 hc (fun w2 hg ho=>hK _ _ ⟨⟨Ag ho,hs3▸hg⟩,trivial⟩)⟩,
   trivial⟩ ?_
 intro vs2 own v3 hT2 hs2 kn inj;clear inj;replace hR:RowAt v3 b .i64 3 n s3:=kn.1;clear kn hs2;replace hT:=hT2;clear hT2 own;simp only[Am,Act.put,Aci,Acj,Ach];obtain⟨s4,hs4⟩:∃f,upd s3 y (CA (Ap (s3 y) (s3 c)) 12)=f:=⟨_,rfl⟩;have Ws4:∀i,i<n→W32 (s4 i):=by rw[←hs4];exact Bd Ws3 (Fm 12 (A9 (Ws3 y hy) (Ws3 c hc)))
 go_wp2_with fail;refine Ai (Touch (fun k=>k=b) w) v3.heap.size
  [(b,⟨B5 .i64 3 n s3,[(13,B5 .i64 3 n s4)]⟩)]
  [kv (.slice (some ⟨b,0,none⟩) n cp),kv (.int .i64 (y:Int)),kv (.slice (some ⟨b,0,none⟩) n cp),kv (.int .i64 (y:Int)),kv (.pointer (some ⟨b,0+y,none⟩)),kv (.int .i64 (s3 y)),kv (.slice (some ⟨b,0,none⟩) n cp),kv (.int .i64 (c:Int)),kv (.pointer (some ⟨b,0+c,none⟩)),kv (.int .i64 (s3 c)),kv (.int .i64 (Ap (s3 y) (s3 c))),kv (.int .i64 (CA (Ap (s3 y) (s3 c)) 12)),kv (.pointer (some ⟨b,0+y,none⟩)),.val fun _=>True]
  [.none,.none,.none,.none,.none,.none,.none,.none,.none,.none,.none,.none,.none,.base 0 1]
  [some 49,some 50,some 51,some 52,some 53,some 54,some 55,some 56,some 57,some 58,some 59,some 60,some 61,none]
  [(0,.slice (some ⟨b,0,none⟩) n cp),(2,.int .i64 (y:Int)),(3,.int .i64 (c:Int))]
  [[],[],[],[],[.slot 2,.slot 3],[.slot 4,.base 0 0],[],[],[.slot 6,.slot 7],[.slot 8,.base 0 0],[.slot 5,.slot 9],[.slot 10],[.slot 0,.slot 1],[.slot 12,.base 0 0,.slot 11]]
  [.base 0 1] [49,50,51,52,53,54,55,56,57,58,59,60,61]
  rfl (by kernel_rfl) ⟨rfl,rfl,rfl,trivial⟩ (Touch.drew hT) (Acg _) ⟨⟨RowAt.lt hR,hR⟩,trivial⟩ ⟨trivial,trivial⟩ (Cb hT.size)
  ⟨
   sL fun f _=>sV (Ab rfl f.1),
   sL fun f _=>sV (Ab rfl f.2.1),
   sL fun f _=>sV (Ab rfl f.1),
   sL fun f _=>sV (Ab rfl f.2.1),
   sL fun _ k=>sV (An rfl underlying171 As k.1 k.2.1 hy),
   sL fun _ k=>sV (At rfl k.1 (Aw (Ba k.2.1 hy))),
   sL fun f _=>sV (Ab rfl f.1),
   sL fun f _=>sV (Ab rfl f.2.2.1),
   sL fun _ k=>sV (An rfl underlying171 As k.1 k.2.1 hc),
   sL fun _ k=>sV (At rfl k.1 (Aw (Ba k.2.1 hc))),
   sL fun _ k=>sV (CJ rfl k.1 k.2.1 (Ws3 y hy) (Ws3 c hc)),
   sL fun _ k=>.inl ⟨trivial,fun K hK=>AH Hh rfl (CT k.1 rfl) (IG _ 12 _ (A9 (Ws3 y hy) (Ws3 c hc)) (by decide)) (fun w' hb=>hK _ _ ⟨Ac hb,rfl⟩)⟩,
   sL fun _ k=>sV (An rfl underlying171 As k.1 k.2.1 hy),
   sL fun _ k=>.inl ⟨trivial,fun K hK=>BQ rfl (Gl k.1) k.2.2.1 k.2.1 hy (fun w2 hg ho=>hK _ _ ⟨⟨Ag ho,hs4▸hg⟩,trivial⟩)⟩,
   trivial⟩ ?_
 intro vs3 own v4 hT3 hs3 kn inj;clear inj;replace hR:RowAt v4 b .i64 3 n s4:=kn.1;clear kn hs3;replace hT:=hT3;clear hT3 own;simp only[Am,Act.put,Aci,Acj,Ach];obtain⟨s5,hs5⟩:∃f,upd s4 a (Bb (s4 a) (s4 y))=f:=⟨_,rfl⟩;have Ws5:∀i,i<n→W32 (s5 i):=by rw[←hs5];exact Bd Ws4 (BG _ _)
 go_wp2_with fail;refine Ai (Touch (fun k=>k=b) w) v4.heap.size
  [(b,⟨B5 .i64 3 n s4,[(13,B5 .i64 3 n s5)]⟩)]
  [kv (.slice (some ⟨b,0,none⟩) n cp),kv (.int .i64 (a:Int)),kv (.slice (some ⟨b,0,none⟩) n cp),kv (.int .i64 (a:Int)),kv (.pointer (some ⟨b,0+a,none⟩)),kv (.int .i64 (s4 a)),kv (.slice (some ⟨b,0,none⟩) n cp),kv (.int .i64 (y:Int)),kv (.pointer (some ⟨b,0+y,none⟩)),kv (.int .i64 (s4 y)),kv (.int .i64 (s4 a+s4 y)),kv (.int .i64 (Bb (s4 a) (s4 y))),kv (.pointer (some ⟨b,0+a,none⟩)),.val fun _=>True]
  [.none,.none,.none,.none,.none,.none,.none,.none,.none,.none,.none,.none,.none,.base 0 1]
  [some 62,some 63,some 64,some 65,some 66,some 67,some 68,some 69,some 70,some 71,some 72,some 73,some 74,none]
  [(0,.slice (some ⟨b,0,none⟩) n cp),(1,.int .i64 (a:Int)),(2,.int .i64 (y:Int))]
  [[],[],[],[],[.slot 2,.slot 3],[.slot 4,.base 0 0],[],[],[.slot 6,.slot 7],[.slot 8,.base 0 0],[.slot 5,.slot 9],[.slot 10],[.slot 0,.slot 1],[.slot 12,.base 0 0,.slot 11]]
  [.base 0 1] [62,63,64,65,66,67,68,69,70,71,72,73,74]
  rfl (by kernel_rfl) ⟨rfl,rfl,rfl,trivial⟩ (Touch.drew hT) (Acg _) ⟨⟨RowAt.lt hR,hR⟩,trivial⟩ ⟨trivial,trivial⟩ (Cb hT.size)
  ⟨
   sL fun f _=>sV (Ab rfl f.1),
   sL fun f _=>sV (Ab rfl f.2.1),
   sL fun f _=>sV (Ab rfl f.1),
   sL fun f _=>sV (Ab rfl f.2.1),
   sL fun _ k=>sV (An rfl underlying171 As k.1 k.2.1 ha),
   sL fun _ k=>sV (At rfl k.1 (Aw (Ba k.2.1 ha))),
   sL fun f _=>sV (Ab rfl f.1),
   sL fun f _=>sV (Ab rfl f.2.2.1),
   sL fun _ k=>sV (An rfl underlying171 As k.1 k.2.1 hy),
   sL fun _ k=>sV (At rfl k.1 (Aw (Ba k.2.1 hy))),
   sL fun _ k=>sV (BO rfl k.1 k.2.1 (FD (Ws4 a ha) (Ws4 y hy)) (DD (Ws4 a ha) (Ws4 y hy))),
   sL fun _ k=>sV (GC rfl k.1 (KY (Ws4 a ha) (Ws4 y hy)) (DD (Ws4 a ha) (Ws4 y hy))),
   sL fun _ k=>sV (An rfl underlying171 As k.1 k.2.1 ha),
   sL fun _ k=>.inl ⟨trivial,fun K hK=>BQ rfl (Gl k.1) k.2.2.1 k.2.1 ha (fun w2 hg ho=>hK _ _ ⟨⟨Ag ho,hs5▸hg⟩,trivial⟩)⟩,
   trivial⟩ ?_
 intro vs4 own v5 hT4 hs4 kn inj;clear inj;replace hR:RowAt v5 b .i64 3 n s5:=kn.1;clear kn hs4;replace hT:=hT4;clear hT4 own;simp only[Am,Act.put,Aci,Acj,Ach];obtain⟨s6,hs6⟩:∃f,upd s5 d (CA (Ap (s5 d) (s5 a)) 8)=f:=⟨_,rfl⟩;have Ws6:∀i,i<n→W32 (s6 i):=by rw[←hs6];exact Bd Ws5 (Fm 8 (A9 (Ws5 d hd) (Ws5 a ha)))
 go_wp2_with fail;refine Ai (Touch (fun k=>k=b) w) v5.heap.size
  [(b,⟨B5 .i64 3 n s5,[(13,B5 .i64 3 n s6)]⟩)]
  [kv (.slice (some ⟨b,0,none⟩) n cp),kv (.int .i64 (d:Int)),kv (.slice (some ⟨b,0,none⟩) n cp),kv (.int .i64 (d:Int)),kv (.pointer (some ⟨b,0+d,none⟩)),kv (.int .i64 (s5 d)),kv (.slice (some ⟨b,0,none⟩) n cp),kv (.int .i64 (a:Int)),kv (.pointer (some ⟨b,0+a,none⟩)),kv (.int .i64 (s5 a)),kv (.int .i64 (Ap (s5 d) (s5 a))),kv (.int .i64 (CA (Ap (s5 d) (s5 a)) 8)),kv (.pointer (some ⟨b,0+d,none⟩)),.val fun _=>True]
  [.none,.none,.none,.none,.none,.none,.none,.none,.none,.none,.none,.none,.none,.base 0 1]
  [some 75,some 76,some 77,some 78,some 79,some 80,some 81,some 82,some 83,some 84,some 85,some 86,some 87,none]
  [(0,.slice (some ⟨b,0,none⟩) n cp),(4,.int .i64 (d:Int)),(1,.int .i64 (a:Int))]
  [[],[],[],[],[.slot 2,.slot 3],[.slot 4,.base 0 0],[],[],[.slot 6,.slot 7],[.slot 8,.base 0 0],[.slot 5,.slot 9],[.slot 10],[.slot 0,.slot 1],[.slot 12,.base 0 0,.slot 11]]
  [.base 0 1] [75,76,77,78,79,80,81,82,83,84,85,86,87]
  rfl (by kernel_rfl) ⟨rfl,rfl,rfl,trivial⟩ (Touch.drew hT) (Acg _) ⟨⟨RowAt.lt hR,hR⟩,trivial⟩ ⟨trivial,trivial⟩ (Cb hT.size)
  ⟨
   sL fun f _=>sV (Ab rfl f.1),
   sL fun f _=>sV (Ab rfl f.2.1),
   sL fun f _=>sV (Ab rfl f.1),
   sL fun f _=>sV (Ab rfl f.2.1),
   sL fun _ k=>sV (An rfl underlying171 As k.1 k.2.1 hd),
   sL fun _ k=>sV (At rfl k.1 (Aw (Ba k.2.1 hd))),
   sL fun f _=>sV (Ab rfl f.1),
   sL fun f _=>sV (Ab rfl f.2.2.1),
   sL fun _ k=>sV (An rfl underlying171 As k.1 k.2.1 ha),
   sL fun _ k=>sV (At rfl k.1 (Aw (Ba k.2.1 ha))),
   sL fun _ k=>sV (CJ rfl k.1 k.2.1 (Ws5 d hd) (Ws5 a ha)),
   sL fun _ k=>.inl ⟨trivial,fun K hK=>AH Hh rfl (CT k.1 rfl) (IG _ 8 _ (A9 (Ws5 d hd) (Ws5 a ha)) (by decide)) (fun w' hb=>hK _ _ ⟨Ac hb,rfl⟩)⟩,
   sL fun _ k=>sV (An rfl underlying171 As k.1 k.2.1 hd),
   sL fun _ k=>.inl ⟨trivial,fun K hK=>BQ rfl (Gl k.1) k.2.2.1 k.2.1 hd (fun w2 hg ho=>hK _ _ ⟨⟨Ag ho,hs6▸hg⟩,trivial⟩)⟩,
   trivial⟩ ?_
 intro vs5 own v6 hT5 hs5 kn inj;clear inj;replace hR:RowAt v6 b .i64 3 n s6:=kn.1;clear kn hs5;replace hT:=hT5;clear hT5 own;simp only[Am,Act.put,Aci,Acj,Ach];obtain⟨s7,hs7⟩:∃f,upd s6 c (Bb (s6 c) (s6 d))=f:=⟨_,rfl⟩;have Ws7:∀i,i<n→W32 (s7 i):=by rw[←hs7];exact Bd Ws6 (BG _ _)
 go_wp2_with fail;refine Ai (Touch (fun k=>k=b) w) v6.heap.size
  [(b,⟨B5 .i64 3 n s6,[(13,B5 .i64 3 n s7)]⟩)]
  [kv (.slice (some ⟨b,0,none⟩) n cp),kv (.int .i64 (c:Int)),kv (.slice (some ⟨b,0,none⟩) n cp),kv (.int .i64 (c:Int)),kv (.pointer (some ⟨b,0+c,none⟩)),kv (.int .i64 (s6 c)),kv (.slice (some ⟨b,0,none⟩) n cp),kv (.int .i64 (d:Int)),kv (.pointer (some ⟨b,0+d,none⟩)),kv (.int .i64 (s6 d)),kv (.int .i64 (s6 c+s6 d)),kv (.int .i64 (Bb (s6 c) (s6 d))),kv (.pointer (some ⟨b,0+c,none⟩)),.val fun _=>True]
  [.none,.none,.none,.none,.none,.none,.none,.none,.none,.none,.none,.none,.none,.base 0 1]
  [some 88,some 89,some 90,some 91,some 92,some 93,some 94,some 95,some 96,some 97,some 98,some 99,some 100,none]
  [(0,.slice (some ⟨b,0,none⟩) n cp),(3,.int .i64 (c:Int)),(4,.int .i64 (d:Int))]
  [[],[],[],[],[.slot 2,.slot 3],[.slot 4,.base 0 0],[],[],[.slot 6,.slot 7],[.slot 8,.base 0 0],[.slot 5,.slot 9],[.slot 10],[.slot 0,.slot 1],[.slot 12,.base 0 0,.slot 11]]
  [.base 0 1] [88,89,90,91,92,93,94,95,96,97,98,99,100]
  rfl (by kernel_rfl) ⟨rfl,rfl,rfl,trivial⟩ (Touch.drew hT) (Acg _) ⟨⟨RowAt.lt hR,hR⟩,trivial⟩ ⟨trivial,trivial⟩ (Cb hT.size)
  ⟨
   sL fun f _=>sV (Ab rfl f.1),
   sL fun f _=>sV (Ab rfl f.2.1),
   sL fun f _=>sV (Ab rfl f.1),
   sL fun f _=>sV (Ab rfl f.2.1),
   sL fun _ k=>sV (An rfl underlying171 As k.1 k.2.1 hc),
   sL fun _ k=>sV (At rfl k.1 (Aw (Ba k.2.1 hc))),
   sL fun f _=>sV (Ab rfl f.1),
   sL fun f _=>sV (Ab rfl f.2.2.1),
   sL fun _ k=>sV (An rfl underlying171 As k.1 k.2.1 hd),
   sL fun _ k=>sV (At rfl k.1 (Aw (Ba k.2.1 hd))),
   sL fun _ k=>sV (BO rfl k.1 k.2.1 (FD (Ws6 c hc) (Ws6 d hd)) (DD (Ws6 c hc) (Ws6 d hd))),
   sL fun _ k=>sV (GC rfl k.1 (KY (Ws6 c hc) (Ws6 d hd)) (DD (Ws6 c hc) (Ws6 d hd))),
   sL fun _ k=>sV (An rfl underlying171 As k.1 k.2.1 hc),
   sL fun _ k=>.inl ⟨trivial,fun K hK=>BQ rfl (Gl k.1) k.2.2.1 k.2.1 hc (fun w2 hg ho=>hK _ _ ⟨⟨Ag ho,hs7▸hg⟩,trivial⟩)⟩,
   trivial⟩ ?_
 intro vs6 own v7 hT6 hs6 kn inj;clear inj;replace hR:RowAt v7 b .i64 3 n s7:=kn.1;clear kn hs6;replace hT:=hT6;clear hT6 own;simp only[Am,Act.put,Aci,Acj,Ach];obtain⟨s8,hs8⟩:∃f,upd s7 y (CA (Ap (s7 y) (s7 c)) 7)=f:=⟨_,rfl⟩;have Ws8:∀i,i<n→W32 (s8 i):=by rw[←hs8];exact Bd Ws7 (Fm 7 (A9 (Ws7 y hy) (Ws7 c hc)))
 go_wp2_with fail;refine Ai (Touch (fun k=>k=b) w) v7.heap.size
  [(b,⟨B5 .i64 3 n s7,[(13,B5 .i64 3 n s8)]⟩)]
  [kv (.slice (some ⟨b,0,none⟩) n cp),kv (.int .i64 (y:Int)),kv (.slice (some ⟨b,0,none⟩) n cp),kv (.int .i64 (y:Int)),kv (.pointer (some ⟨b,0+y,none⟩)),kv (.int .i64 (s7 y)),kv (.slice (some ⟨b,0,none⟩) n cp),kv (.int .i64 (c:Int)),kv (.pointer (some ⟨b,0+c,none⟩)),kv (.int .i64 (s7 c)),kv (.int .i64 (Ap (s7 y) (s7 c))),kv (.int .i64 (CA (Ap (s7 y) (s7 c)) 7)),kv (.pointer (some ⟨b,0+y,none⟩)),.val fun _=>True]
  [.none,.none,.none,.none,.none,.none,.none,.none,.none,.none,.none,.none,.none,.base 0 1]
  [some 101,some 102,some 103,some 104,some 105,some 106,some 107,some 108,some 109,some 110,some 111,some 112,some 113,none]
  [(0,.slice (some ⟨b,0,none⟩) n cp),(2,.int .i64 (y:Int)),(3,.int .i64 (c:Int))]
  [[],[],[],[],[.slot 2,.slot 3],[.slot 4,.base 0 0],[],[],[.slot 6,.slot 7],[.slot 8,.base 0 0],[.slot 5,.slot 9],[.slot 10],[.slot 0,.slot 1],[.slot 12,.base 0 0,.slot 11]]
  [.base 0 1] [101,102,103,104,105,106,107,108,109,110,111,112,113]
  rfl (by kernel_rfl) ⟨rfl,rfl,rfl,trivial⟩ (Touch.drew hT) (Acg _) ⟨⟨RowAt.lt hR,hR⟩,trivial⟩ ⟨trivial,trivial⟩ (Cb hT.size)
  ⟨
   sL fun f _=>sV (Ab rfl f.1),
   sL fun f _=>sV (Ab rfl f.2.1),
   sL fun f _=>sV (Ab rfl f.1),
   sL fun f _=>sV (Ab rfl f.2.1),
   sL fun _ k=>sV (An rfl underlying171 As k.1 k.2.1 hy),
   sL fun _ k=>sV (At rfl k.1 (Aw (Ba k.2.1 hy))),
   sL fun f _=>sV (Ab rfl f.1),
   sL fun f _=>sV (Ab rfl f.2.2.1),
   sL fun _ k=>sV (An rfl underlying171 As k.1 k.2.1 hc),
   sL fun _ k=>sV (At rfl k.1 (Aw (Ba k.2.1 hc))),
   sL fun _ k=>sV (CJ rfl k.1 k.2.1 (Ws7 y hy) (Ws7 c hc)),
   sL fun _ k=>.inl ⟨trivial,fun K hK=>AH Hh rfl (CT k.1 rfl) (IG _ 7 _ (A9 (Ws7 y hy) (Ws7 c hc)) (by decide)) (fun w' hb=>hK _ _ ⟨Ac hb,rfl⟩)⟩,
   sL fun _ k=>sV (An rfl underlying171 As k.1 k.2.1 hy),
   sL fun _ k=>.inl ⟨trivial,fun K hK=>BQ rfl (Gl k.1) k.2.2.1 k.2.1 hy (fun w2 hg ho=>hK _ _ ⟨⟨Ag ho,hs8▸hg⟩,trivial⟩)⟩,
   trivial⟩ ?_
 intro vs7 own v8 hT7 hs7 kn inj;clear inj;replace hR:RowAt v8 b .i64 3 n s8:=kn.1;clear kn hs7;replace hT:=hT7;clear hT7 own;simp only[Am,Act.put,Aci,Acj,Ach];go_wp2_with fail;rw[Qk s0 a y c d hab hac had hbc hbd hcd hs1 hs2 hs3 hs4 hs5 hs6 hs7 hs8] at hR;refine bodyPost_end (results_none rfl _ _ _) rfl ?_;exact⟨rfl,hR,hT⟩
theorem CQ{n:Nat}{s:Nat→Int}{a b c d:Nat}(h:∀i,i<n→W32 (s i))(ha:a<n)(hb:b<n)(hc:c<n)(hd:d<n):∀i,i<n→W32 (Dm s a b c d i):=by
 have hq:(Fu ⟨s a,s b,s c,s d⟩).ok:=UO ⟨h a ha,h b hb,h c hc,h d hd⟩;exact Bd (Bd (Bd (Bd h hq.a) hq.b) hq.c) hq.d
def wrd(s:Nat→Int)(i:Nat):Int:=s (4*i)+256*s (4*i+1)+65536*s (4*i+2)+16777216*s (4*i+3)
theorem RC{n:Nat}{s:Nat→Int}{i:Nat}(h:Byts n s)(hi:4*i+4≤n):W32 (wrd s i):=by
 have h0:=h (4*i) (by omega);have h1:=h (4*i+1) (by omega);have h2:=h (4*i+2) (by omega);have h3:=h (4*i+3) (by omega);unfold wrd W32;omega
theorem or4(x0 x1 x2 x3:Int)(h0:0≤x0∧x0<256)(h1:0≤x1∧x1<256)(h2:0≤x2∧x2<256)(h3:0≤x3∧x3<256):bits .or .u32 (bits .or .u32 (bits .or .u32 x0 (x1*256)) (x2*65536)) (x3*16777216)=x0+256*x1+65536*x2+16777216*x3:=by
 rw[EF x0 x1 8 256 rfl (by omega) (by omega) (by omega) (by omega) (by omega),EF _ x2 16 65536 rfl (by omega) (by omega) (by omega) (by omega) (by omega),EF _ x3 24 16777216 rfl (by omega) (by omega) (by omega) (by omega) (by omega)];omega
theorem Ii{t:TypeId}(b n cp:Nat)(s:Nat→Int)(i:Nat)(w:World)(hR:RowAt w b .u8 t n s)(hs:Byts n s)(hi:4*i+4≤n)(hn:n≤cp)(hc:cp≤1000000):Calls prog 200 #[.slice (some ⟨b,0,none⟩) n cp,.int .i64 (i:Int)] w fun e w'=>e=.returned (.int .u32 (wrd s i))∧Below w.heap.size w w':=by
 have c0:=hR.cell (4*i) (by omega);have c1:=hR.cell (4*i+1) (by omega);have c2:=hR.cell (4*i+2) (by omega);have c3:=hR.cell (4*i+3) (by omega);have h0:=hs (4*i) (by omega);have h1:=hs (4*i+1) (by omega);have h2:=hs (4*i+2) (by omega);have h3:=hs (4*i+3) (by omega);have HO:=Hid.mk (or4 _ _ _ _ h0 h1 h2 h3);go_enter func200,ntmps200;go_wp2
 go_region
 go_wp2
 go_ret
 exact⟨congrArg (fun n=>Ending.returned (Value.int .u32 n)) HO.out,(Below.refl _ _).drew⟩
def NJ(s:Nat→Int)(i:Nat)(v:Int):Nat→Int:=upd (upd (upd (upd s (4*i) (v%256)) (4*i+1) (v/256%256)) (4*i+2) (v/65536%256)) (4*i+3) (v/16777216%256)
theorem Tu{n:Nat}{s:Nat→Int}{i:Nat}{v:Int}(h:Byts n s):Byts n (NJ s i v):=fun j hj=>by
 have:=h j hj;unfold NJ upd
 split
 ·omega
 split
 ·omega
 split
 ·omega
 split<;>omega
theorem FO(b n cp:Nat)(i:Nat)(v:Int)(v0 v1 v2 v3:Value)(w:World)(c0:w.cell? ⟨b,4*i,none⟩=some v0)(c1:w.cell? ⟨b,4*i+1,none⟩=some v1)(c2:w.cell? ⟨b,4*i+2,none⟩=some v2)(c3:w.cell? ⟨b,4*i+3,none⟩=some v3)(f0:w.frozen? ⟨b,4*i,none⟩=false)(f1:w.frozen? ⟨b,4*i+1,none⟩=false)(f2:w.frozen? ⟨b,4*i+2,none⟩=false)(f3:w.frozen? ⟨b,4*i+3,none⟩=false)(hv:W32 v)(hi:4*i+4≤n)(hn:n≤cp)(hc:cp≤1000000):Calls prog 202 #[.slice (some ⟨b,0,none⟩) n cp,.int .i64 (i:Int),.int .u32 v] w fun e w'=>e=.returned (.tuple #[]) ∧ w'=(((w.setCell ⟨b,4*i,none⟩ (.int .u8 (v%256))).setCell ⟨b,4*i+1,none⟩ (.int .u8 (v/256%256))).setCell ⟨b,4*i+2,none⟩ (.int .u8 (v/65536%256))).setCell ⟨b,4*i+3,none⟩ (.int .u8 (v/16777216%256)):=by
 have HE:Hid (v/16777216%256=v/16777216):=Hid.mk (by unfold W32 at hv;omega);unfold W32 at hv;go_enter func202,ntmps202;go_wp2;refine bodyPost_end (results_none rfl _ _ _) rfl ?_;rw[HE.out];exact⟨rfl,rfl⟩
theorem OL{t:TypeId}(b n:Nat)(s:Nat→Int)(i:Nat)(v:Int)(w:World)(hR:ArrAt w b .u8 t n s)(hv:W32 v)(hi:4*i+4≤n)(hc:n≤1000000):Calls prog 202 #[.slice (some ⟨b,0,none⟩) n n,.int .i64 (i:Int),.int .u32 v] w fun e w'=>e=.returned (.tuple #[])∧ArrAt w' b .u8 t n (NJ s i v)∧Only b w w':=by
 refine(FO b n n i v _ _ _ _ w (hR.cell _ (by omega)) (hR.cell _ (by omega)) (hR.cell _ (by omega)) (hR.cell _ (by omega)) (hR.free _) (hR.free _) (hR.free _) (hR.free _) hv hi (Acg _) hc).mono ?_;rintro e w' ⟨rfl,rfl⟩;exact⟨rfl,(((hR.set _ _ (by omega)).set _ _ (by omega)).set _ _ (by omega)).set _ _ (by omega),only_set.trans (only_set.trans (only_set.trans only_set))⟩
theorem Ax:Da 26 12:=⟨_,_,underlying26,by kernel_rfl⟩
theorem Du:Da 183 64:=⟨_,_,underlying183,by kernel_rfl⟩
theorem GD:Da 207 16:=⟨_,_,underlying207,by kernel_rfl⟩
theorem Tv{t:TypeId}(b n cp:Nat)(s:Nat→Int)(i:Nat)(w:World)(hR:RowAt w b .u8 t n s)(hs:Byts n s)(hi:4*i+4≤n)(hn:n≤1000000):Calls prog 204 #[.slice (some ⟨b,0,none⟩) n cp,.int .i64 (4*(i:Int))] w fun e w'=>e=.returned (.int .i64 (wrd s i))∧Below w.heap.size w w':=by
 have c0:=hR.cell (4*i) (by omega);have c1:=hR.cell (4*i+1) (by omega);have c2:=hR.cell (4*i+2) (by omega);have c3:=hR.cell (4*i+3) (by omega);have h0:=hs (4*i) (by omega);have h1:=hs (4*i+1) (by omega);have h2:=hs (4*i+2) (by omega);have h3:=hs (4*i+3) (by omega);clear hR hs;go_enter func204,ntmps204;go_wp2
 go_region
 go_wp2
 go_ret
 exact⟨rfl,(Below.refl _ _).drew⟩
def b4(v:Int)(i:Nat):Int:=if i=0 then v%256 else if i=1 then v/256%256 else if i=2 then v/65536%256 else v/16777216%256
theorem KZ(v:Int)(w:World)(hv:W32 v):Calls prog 179 #[.int .i64 v] w fun e w'=>e=.returned (.slice (some ⟨w.heap.size,0,none⟩) 4 4)∧ArrAt w' w.heap.size .u8 5 4 (b4 v)∧Below w.heap.size w w':=by
 unfold W32 at hv
 have HW:#[Value.int .u8 (v%256),.int .u8 (v/256%256),.int .u8 (v/65536%256),.int .u8 (v/16777216)]=WA .u8 4 (b4 v):=by
  have h:v/16777216%256=v/16777216:=by omega
  conv=>lhs;rw[←h]
  rfl
 have e1:v.tdiv 256=v/256:=Ac8 hv.1;have e2:v.tdiv 65536=v/65536:=Ac8 hv.1;have e3:v.tdiv 16777216=v/16777216:=Ac8 hv.1;go_enter func179,ntmps179;go_wp2
 go_ret
 exact⟨rfl,heap_alloc_new w _,(Below.refl _ w).alloc (Acg _) _⟩
def GE(i:Nat):Int:=[101,120,112,97,110,100,32,51,50,45,98,121,116,101,32,107].getD i 0
theorem J8:Byts 16 GE:=by unfold Byts GE;decide
def ksq(key:Nat→Int)(n:Nat)(i:Nat):Int:=if i<n then (if i<4 then wrd GE i else wrd key (i-4)) else 0
theorem Y5(key:Nat→Int)(k:Nat)(hk:k<4):upd (ksq key k) k (wrd GE k)=ksq key (k+1):=by
 funext i
 unfold upd ksq
 by_cases e:i=k
 ·subst e;simp[hk]
 ·rw[if_neg e]
  by_cases h:i<k
  ·simp[h,show i<k+1 by omega]
  ·simp[h,show ¬i<k+1 by omega]
theorem VF(key:Nat→Int)(k:Nat):upd (ksq key (4+k)) (4+k) (wrd key k)=ksq key (4+(k+1)):=by
 funext i
 unfold upd ksq
 by_cases e:i=4+k
 ·subst e;rw[if_pos rfl,if_pos (by omega),if_neg (by omega)];congr 1;omega
 ·rw[if_neg e]
  by_cases h:i<4+k
  ·simp[h,show i<4+(k+1) by omega]
  ·simp[h,show ¬i<4+(k+1) by omega]
theorem RD:#[Value.int .u8 101,.int .u8 120,.int .u8 112,.int .u8 97,.int .u8 110,.int .u8 100,.int .u8 32,.int .u8 51,.int .u8 50,.int .u8 45,.int .u8 98,.int .u8 121,.int .u8 116,.int .u8 101,.int .u8 32,.int .u8 107]=WA .u8 16 GE:=rfl
theorem MM(w:World):(convert 81 81 (.slice (some ⟨w.heap.size,0,none⟩) 16 16)).run prog (w.alloc (.cells (WA .u8 16 GE) 5))=.ok (.slice (some ⟨w.heap.size,0,none⟩) 16 16) (w.alloc (.cells (WA .u8 16 GE) 5 (16,17))):=by
 have h:=Lib.run_convert_bytes_const (P:=prog) w 81 5 (WA .u8 16 GE) 16 16 underlying81 underlying5;rw[A5] at h;exact h
theorem Mj(key:Nat→Int)(w:World)(hk:Byts 32 key):Calls prog 199 #[.agg (WA .u8 32 key)] w fun e w'=>e=.returned (.agg (WA .u32 16 (ksq key 12)))∧Below w.heap.size w w':=by
 have HW:=RD;go_enter func199,ntmps199;go_wp2
 go_loopg [6] 4 (fun m i v=>∃k:Nat,Hid (m+k=4)∧i=.int .i64 k∧ArrAt v w.heap.size .u8 22 32 key∧ArrAt v (w.heap.size+1) .u32 207 16 (fun _=>0)∧ArrAt v (w.heap.size+1+1) .u32 207 16 (ksq key k)∧Below w.heap.size w v)
 case atStart=>exact⟨0,Hid.mk rfl,rfl,A6 w _ _ _,AB w _ _ _,ArrAt.congr (s:=fun _=>0) (AK w _ _ _) (fun _ _=>rfl),(((Below.refl _ w).alloc (by simp) _).alloc (by simp) _).alloc (by simp;omega) _⟩
 case round =>
  obtain⟨k,HK,rfl,g0,g1,g2,hB⟩:=hrel;have hk4:k≤4:=by have:=HK.out;omega
  by_cases hlt:k<4
  ·have hcv:=MM wr
   go_wp2_with fail;refine(Ii wr.heap.size 16 16 GE k _ (RowAt.marked (heap_alloc_new wr _) (Acg _)) J8 (by omega) (by omega) (by omega)).mono ?_;rintro e v1 ⟨rfl,hb⟩;clear hcv;have hb2:Below wr.heap.size wr v1:=Below.trans ((Below.refl _ wr).alloc (Acg _) _) (hb.mono (by simp));replace g0:=g0.kept hb2;replace g1:=g1.kept hb2;replace g2:=g2.kept hb2;replace hB:=hB.trans (hb2.mono hB.size);clear hb hb2;have c2:=g2.cell k (by omega);have f2:=g2.free k;go_wp2_with fail
   go_roundg (4-(k+1))
   case rel=>exact⟨k+1,Hid.mk (by omega),by go_num,g0.other _ (by omega),g1.other _ (by omega),by rw[←Y5 key k hlt];exact g2.set k _ (by omega),Below.setCell hB (by simp;omega) _⟩
   case measure=>have:=HK.out;omega
  ·have hk2:k=4:=by omega
   subst hk2;clear hlt hk4 HK HW;go_wp2
   go_loopg [16] 8 (fun m i v=>∃k:Nat,Hid (m+k=8)∧i=.int .i64 k∧ArrAt v w.heap.size .u8 22 32 key∧ArrAt v (w.heap.size+1) .u32 207 16 (fun _=>0)∧ArrAt v (w.heap.size+1+1) .u32 207 16 (ksq key (4+k))∧Below w.heap.size w v)
   case atStart=>exact⟨0,Hid.mk rfl,rfl,g0,g1,g2,hB⟩
   case round =>
    clear g0 g1 g2 hB;obtain⟨k,HK,rfl,g0,g1,g2,hB⟩:=hrel;have hk8:k≤8:=by have:=HK.out;omega
    by_cases hlt:k<8
    ·go_wp2_with fail
     refine(Ii w.heap.size 32 32 key k _ g0.row hk (by omega) (by omega) (by omega)).mono ?_;rintro e v1 ⟨rfl,hb⟩;replace g0:=g0.kept hb;replace g1:=g1.kept hb;replace g2:=g2.kept hb;replace hB:=hB.trans (hb.mono hB.size);clear hb;have c2:=g2.cell (4+k) (by omega);have f2:=g2.free (4+k);go_wp2_with fail
     go_roundg (8-(k+1))
     case rel=>exact⟨k+1,Hid.mk (by omega),by go_num,g0.other _ (by omega),g1.other _ (by omega),by rw[←VF key k];exact g2.set (4+k) _ (by omega),Below.setCell hB (by simp;omega) _⟩
     case measure=>have:=HK.out;omega
    ·have hk2:k=8:=by omega
     subst hk2;clear hlt hk8 HK
     go_wp2_with (first|(refine Aq GD g2 (by rfl) ?_)|(refine A1 GD g1 (by rfl) (by rfl) ?_;intro v2 g3 o3))
     exact bodyPost_ret (v:=.agg (WA .u32 16 (ksq key 12))) (AE rfl GD g3 rfl) rfl ⟨rfl,hB.trans (o3.below (by omega))⟩
def OM(key inn:Nat→Int):Nat→Int:=cat 48 (cat 16 GE key) inn
theorem MN{key inn:Nat→Int}(hk:Byts 32 key)(hi:Byts 16 inn):Byts 64 (OM key inn):=fun i h=>by
 unfold OM cat
 by_cases h1:i<48
 ·rw[if_pos h1]
  by_cases h2:i<16
  ·rw[if_pos h2];exact J8 i h2
  ·rw[if_neg h2];exact hk _ (by omega)
 ·rw[if_neg h1];exact hi _ (by omega)
def rsq(key inn:Nat→Int)(i:Nat):Int:=wrd (OM key inn) i
theorem ON(key inn:Nat→Int)(w:World)(hk:Byts 32 key)(hi:Byts 16 inn):Calls prog 178 #[.agg (WA .u8 32 key),.agg (WA .u8 16 inn)] w fun e w'=>∃b cp,e=.returned (.slice (some ⟨b,0,none⟩) 16 cp)∧16≤cp∧w.heap.size≤b∧RowAt w' b .i64 3 16 (rsq key inn)∧Below w.heap.size w w':=by
 have HW:=RD;have g0:ArrAt ((w.alloc (.cells (WA .u8 32 key) 22)).alloc (.cells (WA .u8 16 inn) 54)) w.heap.size .u8 22 32 key:=heap_alloc2_old w _ _;have g1:ArrAt ((w.alloc (.cells (WA .u8 32 key) 22)).alloc (.cells (WA .u8 16 inn) 54)) (w.heap.size+1) .u8 54 16 inn:=heap_alloc2_new w _ _;have hB:Below w.heap.size w ((w.alloc (.cells (WA .u8 32 key) 22)).alloc (.cells (WA .u8 16 inn) 54)):=((Below.refl _ w).alloc (by simp) _).alloc (by simp) _;have hcv:=MM ((w.alloc (.cells (WA .u8 32 key) 22)).alloc (.cells (WA .u8 16 inn) 54));rw[show ((w.alloc (.cells (WA .u8 32 key) 22)).alloc (.cells (WA .u8 16 inn) 54)).heap.size=w.heap.size+1+1 by simp] at hcv;go_enter func178,ntmps178;have gl:RowAt (((w.alloc (.cells (WA .u8 32 key) 22)).alloc (.cells (WA .u8 16 inn) 54)).alloc (.cells (WA .u8 16 GE) 5 (16,17))) (w.heap.size+1+1) .u8 5 16 GE:=RowAt.marked (AK w _ _ _) (Acg _);replace g0:=g0.alloc (.cells (WA .u8 16 GE) 5 (16,17));replace g1:=g1.alloc (.cells (WA .u8 16 GE) 5 (16,17));replace hB:=hB.alloc hB.size (.cells (WA .u8 16 GE) 5 (16,17))
 go_wp2_with (at_builtin;refine I3 rfl _ _ 81 5 .u8 1 underlying81 infoByte (by decide) (by rfl) (n:=16) (m:=32) (by rfl) gl.cell (by rfl) (r:=key) (fun j hj=>by rw[Acl];exact g0.cell j hj) (by decide) (by decide) ?_;intro va v1 h1 hb1;refine Hid.out ?_)
 clear hcv gl g0 HW;replace g1:=g1.kept hb1;have hsz:(((w.alloc (.cells (WA .u8 32 key) 22)).alloc (.cells (WA .u8 16 inn) 54)).alloc (.cells (WA .u8 16 GE) 5 (16,17))).heap.size=w.heap.size+1+1+1:=by simp
 replace hB:=hB.trans (hb1.mono hB.size);have hz1:=hb1.size;rw[hsz] at h1 hz1;clear hb1 hsz;refine Hid.mk ?_
 go_wp2_with (at_builtin;refine Db rfl _ _ 81 5 .u8 1 underlying81 infoByte (by decide) (by rfl) (n:=16+32) (m:=16) (by rfl) h1 (by rfl) (r:=inn) (fun j hj=>by rw[Acl];exact g1.cell j hj) (by decide) hz1 ?_;intro vb v2 h2 hb2;refine Hid.out ?_)
 have h3:v2.ownsRow (w.heap.size+1+1+1) 5 1 vb 64 (AC .u8 64 (OM key inn)):=h2;replace hB:=hB.trans (hb2.mono (by omega));clear h1 h2 hb2 g1;obtain⟨b,cp,rfl,hbb,hcp,hR⟩:=CU h3 (by decide);have hA:=MN hk hi;have HF:Hid (∀i,wrd (OM key inn) i=rsq key inn i):=Hid.mk (fun _=>rfl);generalize OM key inn=al at *;clear h3 hz1;refine Hid.mk ?_;go_wp2_with fail
 go_loopg [6,7] 16 (fun m vs i v=>∃k:Nat,Hid (m+k=16)∧i=.int .i64 k∧v.ownsRow v2.heap.size 3 1 vs k (AC .i64 k (rsq key inn))∧Below v2.heap.size v2 v)
 case atStart=>exact⟨0,Hid.mk rfl,rfl,World.ownsRow_nil v2 _ _ _,Below.refl _ _⟩
 case round =>
  obtain⟨k,HK,rfl,hO,hb⟩:=hrel;have hk16:k≤16:=by have:=HK.out;omega
  by_cases hlt:k<16
  ·go_wp2_with fail
   refine(Tv b 64 cp al k _ (hR.below hb hR.lt) hA (by omega) (by omega)).mono ?_;rintro e v3 ⟨rfl,hb3⟩;rw[HF.out];replace hO:=Bp (Bp hO hb3) ((Below.refl _ v3).alloc (Acg _) (.cells #[.int .i64 (rsq key inn k)] 3));replace hb:=(hb.trans (hb3.mono hb.size)).alloc (Acp hb.size hb3.size) (.cells #[.int .i64 (rsq key inn k)] 3);clear hb3
   go_wp2_with (at_builtin;refine Db rfl _ _ 171 3 .i64 8 underlying171 B1 (by decide) (by rfl) (n:=k) (m:=1) (by rfl) hO (by rfl) (r:=fun _=>rsq key inn k) (fun j hj=>by obtain rfl:j=0:=(by omega);exact cell_of_row _ _ 0 _ _ _ (heap_alloc_new v3 _)) (by omega) hb.size ?_;intro vb v4 h4 hb4;refine Hid.out ?_)
   rw[B2 (DV k (rsq key inn))] at h4;replace hb:=hb.trans hb4;clear hb4 hO;refine Hid.mk ?_;go_wp2_with fail
   go_roundg (16-(k+1))
   case rel=>exact⟨k+1,Hid.mk (by omega),by go_num,h4,hb⟩
   case measure=>have:=HK.out;omega
  ·have hk2:k=16:=by omega
   subst hk2;obtain⟨b',cp',rfl,hb',hcp',hR'⟩:=CU hO (by decide);have hz:=hB.size;go_wp2_with fail
   go_ret
   exact⟨b',cp',rfl,hcp',by omega,hR',hB.trans (hb.mono hz)⟩
def ssq(key:Nat→Int)(c:Int)(nonce:Nat→Int)(k:Nat)(i:Nat):Int:=if i=12 then c else if 12<i∧i<13+k then wrd nonce (i-13) else ksq key 12 i
theorem Abk(key:Nat→Int)(c:Int)(nonce:Nat→Int):upd (ksq key 12) 12 c=ssq key c nonce 0:=by
 funext i
 unfold upd ssq
 by_cases e:i=12
 ·simp[e]
 ·rw[if_neg e,if_neg e,if_neg (by omega)]
theorem VG(key:Nat→Int)(c:Int)(nonce:Nat→Int)(k:Nat):upd (ssq key c nonce k) (13+k) (wrd nonce k)=ssq key c nonce (k+1):=by
 funext i
 unfold upd ssq
 by_cases e:i=13+k
 ·subst e;rw[if_pos rfl,if_neg (by omega),if_pos (by omega)];congr 1;omega
 ·rw[if_neg e]
  by_cases h:i=12
  ·simp[h]
  ·rw[if_neg h,if_neg h]
   by_cases h':12<i∧i<13+k
   ·rw[if_pos h',if_pos (by omega)]
   ·rw[if_neg h',if_neg (by omega)]
theorem Fy(key nonce:Nat→Int)(c:Int)(w:World)(hk:Byts 32 key)(hn:Byts 12 nonce):Calls prog 181 #[.agg (WA .u8 32 key),.int .u32 c,.agg (WA .u8 12 nonce)] w fun e w'=>e=.returned (.agg (WA .u32 16 (ssq key c nonce 3)))∧Below w.heap.size w w':=by
 have g0:ArrAt (((w.alloc (.cells (WA .u8 32 key) 22)).alloc (.cells (WA .u8 12 nonce) 26)).alloc (.cells (WA .u32 16 fun _=>0) 207)) w.heap.size .u8 22 32 key:=A6 w _ _ _;have g1:ArrAt (((w.alloc (.cells (WA .u8 32 key) 22)).alloc (.cells (WA .u8 12 nonce) 26)).alloc (.cells (WA .u32 16 fun _=>0) 207)) (w.heap.size+1) .u8 26 12 nonce:=AB w _ _ _;have g2:ArrAt (((w.alloc (.cells (WA .u8 32 key) 22)).alloc (.cells (WA .u8 12 nonce) 26)).alloc (.cells (WA .u32 16 fun _=>0) 207)) (w.heap.size+1+1) .u32 207 16 (fun _=>0):=AK w _ _ _;have hB:Below w.heap.size w (((w.alloc (.cells (WA .u8 32 key) 22)).alloc (.cells (WA .u8 12 nonce) 26)).alloc (.cells (WA .u32 16 fun _=>0) 207)):=(((Below.refl _ w).alloc (by simp) _).alloc (by simp) _).alloc (by simp;omega) _;go_enter func181,ntmps181
 go_wp2_with (first|(refine Aq Af g0 (by rfl) ?_))
 refine(Mj key _ hk).mono ?_;rintro e v1 ⟨rfl,hb⟩;replace g0:=g0.kept hb;replace g1:=g1.kept hb;replace g2:=g2.kept hb;replace hB:=hB.trans (hb.mono hB.size);clear hb
 go_wp2_with (first|(refine A1 (s':=fun _=>0) (k':=.u32) GD (heap_alloc_new v1 _) (by rfl) (by rfl) ?_;intro v2 g3 o3;refine Hid.out ?_))
 have hs1:=g2.lt;replace g1:=(g1.alloc _).only o3 (Ack g1.lt);replace g2:=(g2.alloc _).only o3 (Ack g2.lt);replace hB:=(hB.alloc hB.size _).trans (o3.below hB.size);clear o3 g0;generalize v1.heap.size=B3 at *;have c3:=g3.cell 12 (by omega);have f3:=g3.free 12;refine Hid.mk ?_;go_wp2_with fail;replace g1:=g1.other (g:=B3) (i:=12) (.int .u32 c) (by omega);replace g2:=g2.other (g:=B3) (i:=12) (.int .u32 c) (by omega);replace g3:=g3.set 12 c (by omega);rw[Abk key c nonce] at g3;replace hB:=Below.setCell hB (p:=⟨B3,12,none⟩) (by simp;omega) (.int .u32 c);clear c3 f3
 go_loopg [13] 3 (fun m i v=>∃k:Nat,Hid (m+k=3)∧i=.int .i64 k∧ArrAt v (w.heap.size+1) .u8 26 12 nonce∧ArrAt v (w.heap.size+1+1) .u32 207 16 (fun _=>0)∧ArrAt v B3 .u32 207 16 (ssq key c nonce k)∧Below w.heap.size w v)
 case atStart=>exact⟨0,Hid.mk rfl,rfl,g1,g2,g3,hB⟩
 case round =>
  clear g1 g2 g3 hB;obtain⟨k,HK,rfl,g1,g2,g3,hB⟩:=hrel;have hk3:k≤3:=by have:=HK.out;omega
  by_cases hlt:k<3
  ·go_wp2_with fail
   refine(Ii (w.heap.size+1) 12 12 nonce k _ g1.row hn (by omega) (by omega) (by omega)).mono ?_;rintro e v3 ⟨rfl,hb⟩;replace g1:=g1.kept hb;replace g2:=g2.kept hb;replace g3:=g3.kept hb;replace hB:=hB.trans (hb.mono hB.size);clear hb;have c3:=g3.cell (13+k) (by omega);have f3:=g3.free (13+k);go_wp2_with fail
   go_roundg (3-(k+1))
   case rel=>exact⟨k+1,Hid.mk (by omega),by go_num,g1.other _ (by omega),g2.other _ (by omega),by rw[←VG key c nonce k];exact g3.set (13+k) _ (by omega),Below.setCell hB (by simp;omega) _⟩
   case measure=>have:=HK.out;omega
  ·have hk2:k=3:=by omega
   subst hk2;clear hlt hk3 HK
   go_wp2_with (first|(refine Aq GD g3 (by rfl) ?_)|(refine A1 GD g2 (by rfl) (by rfl) ?_;intro v4 g4 o4))
   exact bodyPost_ret (v:=.agg (WA .u32 16 (ssq key c nonce 3))) (AE rfl GD g4 rfl) rfl ⟨rfl,hB.trans (o4.below (by omega))⟩
theorem Tw(s:Nat→Int)(n:Int)(w:World):Calls prog 183 #[.agg (WA .u32 16 s),.int .u32 n] w fun e w'=>e=.returned (.agg (WA .u32 16 (upd s 12 (Bb (s 12) n))))∧Below w.heap.size w w':=by
 unfold Bb;have e0:=Ei .u32 16 s 12 (by omega);have e1:=UG .u32 16 s 12 ((s 12+n)%4294967296) (by omega);go_enter func183,ntmps183
 go_wp2_with (first|(refine Aq GD (heap_alloc2_old w _ _) (by rfl) ?_)|(refine A1 (s':=fun _=>0) (k':=.u32) GD (heap_alloc2_new w _ _) (by rfl) (by rfl) ?_;intro v4 g4 o4))
 exact bodyPost_ret (v:=.agg (WA .u32 16 (upd s 12 ((s 12+n)%4294967296)))) (AE rfl GD g4 rfl) rfl ⟨rfl,(((Below.refl _ w).alloc (by simp) _).alloc (by simp) _).trans (o4.below (by omega))⟩
def dbl(s:Nat→Int):Nat→Int:=
 Dm (Dm (Dm (Dm (Dm (Dm (Dm (Dm s 0 4 8 12) 1 5 9 13) 2 6 10 14) 3 7 11 15) 0 5 10 15) 1 6 11 12) 2 7 8 13) 3 4 9 14
def Fo(s:Nat→Int):Nat→Nat→Int
 | 0=>s
 | k+1=>dbl (Fo s k)
theorem Abl{s:Nat→Int}(h:∀i,i<16→W32 (s i)):∀i,i<16→W32 (dbl s i):=
 CQ (CQ (CQ (CQ (CQ (CQ (CQ (CQ h (by decide) (by decide) (by decide) (by decide)) (by decide) (by decide) (by decide) (by decide)) (by decide) (by decide) (by decide) (by decide)) (by decide) (by decide) (by decide) (by decide)) (by decide) (by decide) (by decide) (by decide)) (by decide) (by decide) (by decide) (by decide)) (by decide) (by decide) (by decide) (by decide)) (by decide) (by decide) (by decide) (by decide)
theorem La{s:Nat→Int}(h:∀i,i<16→W32 (s i)):∀k i,i<16→W32 (Fo s k i)
 | 0=>h
 | k+1=>Abl (La h k)
theorem Ql(s:Nat→Int)(w:World)(hs:∀i,i<16→W32 (s i)):Calls prog 201 #[.agg (WA .u32 16 s)] w fun e w'=>e=.returned (.agg (WA .u32 16 (Fo s 10)))∧Below w.heap.size w w':=by
 go_enter func201,ntmps201;go_wp2_with fail
 go_loopg [3] 10 (fun m i v=>∃k:Nat,Hid (m+k=10)∧i=.int .i64 k∧ArrAt v w.heap.size .u32 207 16 (Fo s k)∧ArrAt v (w.heap.size+1) .u32 207 16 (fun _=>0)∧Below w.heap.size w v)
 case atStart=>exact⟨0,Hid.mk rfl,rfl,heap_alloc2_old w _ _,heap_alloc2_new w _ _,((Below.refl _ w).alloc (by simp) _).alloc (by simp) _⟩
 case round =>
  obtain⟨k,HK,rfl,g,g1,hB⟩:=hrel;have hk10:k≤10:=by have:=HK.out;omega
  by_cases hlt:k<10
  ·have HN:Hid (dbl (Fo s k)=Fo s (k+1)):=Hid.mk rfl
   have W0:=La hs k;generalize Fo s k=s0 at *;unfold dbl at HN
   go_wp2_with (first|(refine BB g (by rfl) (by decide) ?_))
   refine(CD (s0 0) (s0 4) (s0 8) (s0 12) _ (W0 0 (by decide)) (W0 4 (by decide)) (W0 8 (by decide)) (W0 12 (by decide))).mono ?_;rintro e vq ⟨rfl,rfl⟩
   go_wp2_with (first|(refine Bg (i:=12) g (by rfl) (by rfl) (by decide) ?_;clear g;intro v2 g o2;replace g1:=g1.only o2 (by omega);replace hB:=hB.trans (o2.below (Acg _));clear o2;refine Hid.out ?_)|(refine Bg g (by rfl) (by rfl) (by decide) ?_;clear g;intro v2 g o2;replace g1:=g1.only o2 (by omega);replace hB:=hB.trans (o2.below (Acg _));clear o2))
   replace g:ArrAt v2 w.heap.size .u32 207 16 (Dm s0 0 4 8 12):=g;have W1:=CQ (a:=0) (b:=4) (c:=8) (d:=12) W0 (by decide) (by decide) (by decide) (by decide);generalize Dm s0 0 4 8 12=s1 at *;clear W0;refine Hid.mk ?_
   go_wp2_with (first|(refine BB g (by rfl) (by decide) ?_))
   refine(CD (s1 1) (s1 5) (s1 9) (s1 13) _ (W1 1 (by decide)) (W1 5 (by decide)) (W1 9 (by decide)) (W1 13 (by decide))).mono ?_;rintro e vq ⟨rfl,rfl⟩
   go_wp2_with (first|(refine Bg (i:=13) g (by rfl) (by rfl) (by decide) ?_;clear g;intro v2 g o2;replace g1:=g1.only o2 (by omega);replace hB:=hB.trans (o2.below (Acg _));clear o2;refine Hid.out ?_)|(refine Bg g (by rfl) (by rfl) (by decide) ?_;clear g;intro v2 g o2;replace g1:=g1.only o2 (by omega);replace hB:=hB.trans (o2.below (Acg _));clear o2))
   replace g:ArrAt v2 w.heap.size .u32 207 16 (Dm s1 1 5 9 13):=g;have W2:=CQ (a:=1) (b:=5) (c:=9) (d:=13) W1 (by decide) (by decide) (by decide) (by decide);generalize Dm s1 1 5 9 13=s2 at *;clear W1;refine Hid.mk ?_
   go_wp2_with (first|(refine BB g (by rfl) (by decide) ?_))
   refine(CD (s2 2) (s2 6) (s2 10) (s2 14) _ (W2 2 (by decide)) (W2 6 (by decide)) (W2 10 (by decide)) (W2 14 (by decide))).mono ?_;rintro e vq ⟨rfl,rfl⟩
   go_wp2_with (first|(refine Bg (i:=14) g (by rfl) (by rfl) (by decide) ?_;clear g;intro v2 g o2;replace g1:=g1.only o2 (by omega);replace hB:=hB.trans (o2.below (Acg _));clear o2;refine Hid.out ?_)|(refine Bg g (by rfl) (by rfl) (by decide) ?_;clear g;intro v2 g o2;replace g1:=g1.only o2 (by omega);replace hB:=hB.trans (o2.below (Acg _));clear o2))
   replace g:ArrAt v2 w.heap.size .u32 207 16 (Dm s2 2 6 10 14):=g;have W3:=CQ (a:=2) (b:=6) (c:=10) (d:=14) W2 (by decide) (by decide) (by decide) (by decide);generalize Dm s2 2 6 10 14=s3 at *;clear W2;refine Hid.mk ?_
   go_wp2_with (first|(refine BB g (by rfl) (by decide) ?_))
   refine(CD (s3 3) (s3 7) (s3 11) (s3 15) _ (W3 3 (by decide)) (W3 7 (by decide)) (W3 11 (by decide)) (W3 15 (by decide))).mono ?_;rintro e vq ⟨rfl,rfl⟩
   go_wp2_with (first|(refine Bg (i:=15) g (by rfl) (by rfl) (by decide) ?_;clear g;intro v2 g o2;replace g1:=g1.only o2 (by omega);replace hB:=hB.trans (o2.below (Acg _));clear o2;refine Hid.out ?_)|(refine Bg g (by rfl) (by rfl) (by decide) ?_;clear g;intro v2 g o2;replace g1:=g1.only o2 (by omega);replace hB:=hB.trans (o2.below (Acg _));clear o2))
   replace g:ArrAt v2 w.heap.size .u32 207 16 (Dm s3 3 7 11 15):=g;have W4:=CQ (a:=3) (b:=7) (c:=11) (d:=15) W3 (by decide) (by decide) (by decide) (by decide);generalize Dm s3 3 7 11 15=s4 at *;clear W3;refine Hid.mk ?_
   go_wp2_with (first|(refine BB g (by rfl) (by decide) ?_))
   refine(CD (s4 0) (s4 5) (s4 10) (s4 15) _ (W4 0 (by decide)) (W4 5 (by decide)) (W4 10 (by decide)) (W4 15 (by decide))).mono ?_;rintro e vq ⟨rfl,rfl⟩
   go_wp2_with (first|(refine Bg (i:=15) g (by rfl) (by rfl) (by decide) ?_;clear g;intro v2 g o2;replace g1:=g1.only o2 (by omega);replace hB:=hB.trans (o2.below (Acg _));clear o2;refine Hid.out ?_)|(refine Bg g (by rfl) (by rfl) (by decide) ?_;clear g;intro v2 g o2;replace g1:=g1.only o2 (by omega);replace hB:=hB.trans (o2.below (Acg _));clear o2))
   replace g:ArrAt v2 w.heap.size .u32 207 16 (Dm s4 0 5 10 15):=g;have W5:=CQ (a:=0) (b:=5) (c:=10) (d:=15) W4 (by decide) (by decide) (by decide) (by decide);generalize Dm s4 0 5 10 15=s5 at *;clear W4;refine Hid.mk ?_
   go_wp2_with (first|(refine BB g (by rfl) (by decide) ?_))
   refine(CD (s5 1) (s5 6) (s5 11) (s5 12) _ (W5 1 (by decide)) (W5 6 (by decide)) (W5 11 (by decide)) (W5 12 (by decide))).mono ?_;rintro e vq ⟨rfl,rfl⟩
   go_wp2_with (first|(refine Bg (i:=12) g (by rfl) (by rfl) (by decide) ?_;clear g;intro v2 g o2;replace g1:=g1.only o2 (by omega);replace hB:=hB.trans (o2.below (Acg _));clear o2;refine Hid.out ?_)|(refine Bg g (by rfl) (by rfl) (by decide) ?_;clear g;intro v2 g o2;replace g1:=g1.only o2 (by omega);replace hB:=hB.trans (o2.below (Acg _));clear o2))
   replace g:ArrAt v2 w.heap.size .u32 207 16 (Dm s5 1 6 11 12):=g;have W6:=CQ (a:=1) (b:=6) (c:=11) (d:=12) W5 (by decide) (by decide) (by decide) (by decide);generalize Dm s5 1 6 11 12=s6 at *;clear W5;refine Hid.mk ?_
   go_wp2_with (first|(refine BB g (by rfl) (by decide) ?_))
   refine(CD (s6 2) (s6 7) (s6 8) (s6 13) _ (W6 2 (by decide)) (W6 7 (by decide)) (W6 8 (by decide)) (W6 13 (by decide))).mono ?_;rintro e vq ⟨rfl,rfl⟩
   go_wp2_with (first|(refine Bg (i:=13) g (by rfl) (by rfl) (by decide) ?_;clear g;intro v2 g o2;replace g1:=g1.only o2 (by omega);replace hB:=hB.trans (o2.below (Acg _));clear o2;refine Hid.out ?_)|(refine Bg g (by rfl) (by rfl) (by decide) ?_;clear g;intro v2 g o2;replace g1:=g1.only o2 (by omega);replace hB:=hB.trans (o2.below (Acg _));clear o2))
   replace g:ArrAt v2 w.heap.size .u32 207 16 (Dm s6 2 7 8 13):=g;have W7:=CQ (a:=2) (b:=7) (c:=8) (d:=13) W6 (by decide) (by decide) (by decide) (by decide);generalize Dm s6 2 7 8 13=s7 at *;clear W6;refine Hid.mk ?_
   go_wp2_with (first|(refine BB g (by rfl) (by decide) ?_))
   refine(CD (s7 3) (s7 4) (s7 9) (s7 14) _ (W7 3 (by decide)) (W7 4 (by decide)) (W7 9 (by decide)) (W7 14 (by decide))).mono ?_;rintro e vq ⟨rfl,rfl⟩
   go_wp2_with (first|(refine Bg (i:=14) g (by rfl) (by rfl) (by decide) ?_;clear g;intro v2 g o2;replace g1:=g1.only o2 (by omega);replace hB:=hB.trans (o2.below (Acg _));clear o2;refine Hid.out ?_)|(refine Bg g (by rfl) (by rfl) (by decide) ?_;clear g;intro v2 g o2;replace g1:=g1.only o2 (by omega);replace hB:=hB.trans (o2.below (Acg _));clear o2))
   replace g:ArrAt v2 w.heap.size .u32 207 16 (Dm s7 3 4 9 14):=g;have W8:=CQ (a:=3) (b:=4) (c:=9) (d:=14) W7 (by decide) (by decide) (by decide) (by decide);rw[HN.out] at g;refine Hid.mk ?_;go_wp2_with fail
   go_roundg (10-(k+1))
   case rel=>exact⟨k+1,Hid.mk (by omega),by go_num,g,g1,hB⟩
   case measure=>have:=HK.out;omega
  ·have hk2:k=10:=by omega
   subst hk2;clear hlt hk10 HK
   go_wp2_with (first|(refine Aq GD g (by rfl) ?_)|(refine A1 GD g1 (by rfl) (by rfl) ?_;intro v4 g4 o4))
   exact bodyPost_ret (v:=.agg (WA .u32 16 (Fo s 10))) (AE rfl GD g4 rfl) rfl ⟨rfl,hB.trans (o4.below (by omega))⟩
def col(s:Nat→Int):Nat→Nat→Int
 | 0=>s
 | k+1=>Dm (col s k) k (4+k) (8+k) (12+k)
def dia(s:Nat→Int):Nat→Nat→Int
 | 0=>s
 | k+1=>Dm (dia s k) k (4+(k+1)%4) (8+(k+2)%4) (12+(k+3)%4)
theorem VH{s:Nat→Int}(h:∀i,i<16→W32 (s i)):∀k,k≤4→∀i,i<16→W32 (col s k i)
 | 0,_=>h
 | k+1,hk=>CQ (VH h k (by omega)) (by omega) (by omega) (by omega) (by omega)
theorem ZJ{s:Nat→Int}(h:∀i,i<16→W32 (s i)):∀k,k≤4→∀i,i<16→W32 (dia s k i)
 | 0,_=>h
 | k+1,hk=>CQ (ZJ h k (by omega)) (by omega) (by omega) (by omega) (by omega)
theorem VI(k n:Nat):((k:Int)+n).tmod 4=(((k+n)%4:Nat):Int):=by
 rw[Acz (by omega)];omega
theorem VJ(f r:Nat→Int):∀i,i<0+16→cat 0 f r i=r i:=fun i _=>by simp[cat]
theorem Qm(s:Nat→Int)(b cp:Nat)(w:World)(hR:RowAt w b .i64 3 16 s)(hs:∀i,i<16→W32 (s i)):Calls prog 177 #[.slice (some ⟨b,0,none⟩) 16 cp] w fun e w'=>∃b' cp',e=.returned (.slice (some ⟨b',0,none⟩) 16 cp')∧16≤cp'∧w.heap.size≤b'∧RowAt w' b' .i64 3 16 (Fo s 10)∧Below w.heap.size w w':=by
 go_enter func177,ntmps177;have HR:Hid (∀j,j<16→(w.alloc (.cells #[] 3)).cell? ⟨b,0+j,none⟩=some (.int .i64 (s j))):=Hid.mk (fun j hj=>by rw[Acl];exact(hR.alloc _).cell j hj);clear hR
 go_wp2_with (at_builtin;refine I3 rfl _ _ 171 3 .i64 8 underlying171 B1 (by decide) (by rfl) (n:=0) (m:=16) (f:=s) (by rfl) (fun j hj=>by omega) (by rfl) (r:=s) HR.out (by decide) (by decide) ?_;intro va v1 h1 hb1;refine Hid.out ?_)
 clear HR;rw[B2 (VJ s s)] at h1;obtain⟨b',cp',rfl,hbb,hcp,hR⟩:=CU h1 (by decide);replace hcp:16≤cp':=hcp;replace hR:RowAt v1 b' .i64 3 16 (Fo s 0):=hR;replace hbb:w.heap.size≤b':=by simp at hbb;omega
 have hB:Below w.heap.size w v1:=Below.trans ((Below.refl _ w).alloc (Acg _) _) (hb1.mono (by simp));clear h1 hb1;refine Hid.mk ?_;simp only[Acl];go_wp2_with fail
 go_loopg [3] 10 (fun m i v=>∃k:Nat,Hid (m+k=10)∧i=.int .i64 k∧RowAt v b' .i64 3 16 (Fo s k)∧Below w.heap.size w v)
 case atStart=>exact⟨0,Hid.mk rfl,rfl,hR,hB⟩
 case round =>
  clear hR hB;obtain⟨k,HK,rfl,hR,hB⟩:=hrel;have hk10:k≤10:=by have:=HK.out;omega
  by_cases hlt:k<10
  ·have HN:Hid (dia (col (Fo s k) 4) 4=Fo s (k+1)):=Hid.mk rfl
   have W0:=La hs k;generalize Fo s k=s0 at *;have hd:decide ((k:Int)<10)=true:=by simp;omega
   go_wp2_with fail;generalize wr=wo at *
   go_loopg [4] 4 (fun m i v=>∃j:Nat,Hid (m+j=4)∧i=.int .i64 j∧RowAt v b' .i64 3 16 (col s0 j)∧Below w.heap.size w v)
   case atStart=>exact⟨0,Hid.mk rfl,rfl,hR,hB⟩
   case round =>
    clear hR hB;obtain⟨j,HJ,rfl,hR,hB⟩:=hrel;have hj4:j≤4:=by have:=HJ.out;omega
    by_cases hjl:j<4
    ·go_wp2_with fail
     refine(IH b' 16 cp' (col s0 j) j (4+j) (8+j) (12+j) wr hR (VH W0 j hj4) (by omega) (by omega) (by omega) (by omega) (by omega) (by omega) (by omega) (by omega) (by omega) (by omega)).mono ?_;rintro e v2 ⟨rfl,hR2,hT⟩;replace hB:=hB.trans (CC hT hbb hB.size);clear hT hR;go_wp2_with fail
     go_roundg (4-(j+1))
     case rel=>exact⟨j+1,Hid.mk (by omega),by go_num,hR2,hB⟩
     case measure=>have:=HJ.out;omega
    ·have hj2:j=4:=by omega
     subst hj2;clear hjl hj4 HJ;have W1:=VH W0 4 (Acg _);generalize col s0 4=s1 at *;go_wp2_with fail;rw[show ((4:Nat):Int)=4 from rfl];generalize wr=wo2 at *
     go_loopg [5] 4 (fun m i v=>∃j:Nat,Hid (m+j=4)∧i=.int .i64 j∧RowAt v b' .i64 3 16 (dia s1 j)∧Below w.heap.size w v)
     case atStart=>exact⟨0,Hid.mk rfl,rfl,hR,hB⟩
     case round =>
      clear hR hB;obtain⟨j,HJ,rfl,hR,hB⟩:=hrel;have hj4:j≤4:=by have:=HJ.out;omega
      by_cases hjl:j<4
      ·have t1:((j:Int)+1).tmod 4=(((j+1)%4:Nat):Int):=VI j 1
       have t2:((j:Int)+2).tmod 4=(((j+2)%4:Nat):Int):=VI j 2;have t3:((j:Int)+3).tmod 4=(((j+3)%4:Nat):Int):=VI j 3;have hr:=IH b' 16 cp' (dia s1 j) j (4+(j+1)%4) (8+(j+2)%4) (12+(j+3)%4) wr hR (ZJ W1 j hj4) (by omega) (by omega) (by omega) (by omega) (by omega) (by omega) (by omega) (by omega) (by omega) (by omega);have HR:Hid (∀v,RowAt v b' .i64 3 16 (Dm (dia s1 j) j (4+(j+1)%4) (8+(j+2)%4) (12+(j+3)%4))→RowAt v b' .i64 3 16 (dia s1 (j+1))):=Hid.mk (fun _ h=>h);have m1:(j+1)%4<4:=by omega
       have m2:(j+2)%4<4:=by omega
       have m3:(j+3)%4<4:=by omega
       generalize (j+1)%4=x1 at *;generalize (j+2)%4=x2 at *;generalize (j+3)%4=x3 at *;go_wp2_with fail;refine hr.mono ?_;rintro e v2 ⟨rfl,hR2,hT⟩;replace hB:=hB.trans (CC hT hbb hB.size);clear hT hR hr;replace hR2:=HR.out _ hR2;go_wp2_with fail
       go_roundg (4-(j+1))
       case rel=>exact⟨j+1,Hid.mk (by omega),by go_num,hR2,hB⟩
       case measure=>have:=HJ.out;omega
      ·have hj2:j=4:=by omega
       subst hj2;clear hjl hj4 HJ;rw[HN.out] at hR;go_wp2_with fail
       go_roundg (10-(k+1))
       case rel=>exact⟨k+1,Hid.mk (by omega),by go_num,hR,hB⟩
       case measure=>have:=HK.out;omega
  ·have hk2:k=10:=by omega
   subst hk2;go_wp2_with fail
   go_ret
   exact⟨b',cp',rfl,hcp,hbb,hR,hB⟩
end Go.Proofs.YthghcjepdhkfdaaGreatDoor
