/-
  Own text. The document's answer for blake: turned words, the beginnings, the orders.
-/
import Derived.Test.YthghcjepdhkfdaaGreatDoorJB1
import Derived.Tactics
import Derived.Test.YthghcjepdhkfdaaGreatDoorProg
import Derived.WalkKit
import Derived.WalkSpells
import Derived.WalkLawsBesides
import Derived.Laws.Externs
import Derived.Laws.MathBits
import Derived.Deep.QuietTactic
import Derived.BigQuiet
import Derived.Laws.Bits64b
import Derived.Deep.RegionWith
import Derived.BigRegion
import Derived.Shelf.Spec.BitsCarry
import Derived.Test.YthghcjepdhkfdaaGreatDoorRows
import Derived.Test.YthghcjepdhkfdaaGreatDoorTie
import Derived.Test.YthghcjepdhkfdaaGreatDoorCards
import Derived.ProofKit
import Derived.LaidMore
import Derived.OpenShut
import Derived.Stop.Joined
import Derived.SevenTiedAt
import Derived.Deep.DeepHandedRow
import Derived.Lib.LaidTab
set_option maxHeartbeats 16000000
set_option maxRecDepth 100000
open Array renaming getD_eq_getD_getElem?→AcR,getElem?_eq_getElem→Acx,getElem?_eq_none→Acv
open Bool renaming and_eq_true→Acm
open Int renaming add_mul_emod_self_left→AcQ,ediv_ediv_of_nonneg→AcO,emod_eq_of_lt→AcN,eq_ofNat_of_zero_le→Ac3,pow_add→Ac2,pow_succ→Acr,tmod_eq_emod_of_nonneg→Acz,toNat_natCast→AcB
open List renaming getD_eq_getElem?_getD→AcG,getElem?_eq_getElem→Ac1,getElem?_eq_none→Ac7,getElem?_map→AcL,getElem?_take→AcM,map_cons→Acu,map_nil→Acq,range→Aco,setIfInBounds_toArray→Aci,set_cons_succ→Ach,set_cons_zero→Acj
open Nat renaming le_refl→Acg,le_trans→Acp,lt_or_ge→Ac5
namespace Go.Proofs.YthghcjepdhkfdaaGreatDoor
open Go.RowKit Go.Proofs
open Tryz
def Dx(x:Int)(n:Nat):Int:=CA x (32-n)
theorem Sy(x:Int)(n:Nat)(hx:W32 x)(hn:n≤32)(p q:Int)(hp:p=((2 ^ n:Nat):Int))(hq:q=((2 ^ (32-n):Nat):Int)):bits .or .i64 (x/p) (x*q%4294967296)=Dx x n:=by
 unfold W32 at hx;obtain⟨m,rfl⟩:=Ac3 hx.1;subst hp;subst hq;have e1:(m:Int)*((2 ^ (32-n):Nat):Int)%4294967296=((m*2 ^ (32-n)%4294967296:Nat):Int):=by simp
 have e2:(m:Int)/((2 ^ n:Nat):Int)=((m/2 ^ n:Nat):Int):=by simp
 have h1:=Nat.mod_lt (m*2 ^ (32-n)) (show 4294967296 > 0 by decide);have h2:m/2 ^ n<4294967296:=Nat.lt_of_le_of_lt (Nat.div_le_self _ _) (by omega);rw[e1,e2,UH ⟨Int.natCast_nonneg _,Int.ofNat_lt.2 h2⟩ ⟨Int.natCast_nonneg _,Int.ofNat_lt.2 h1⟩];simp only[AcB,CA,Dx];rw[Nat.or_comm,show 32-(32-n)=n by omega]
theorem EJ{x:Int}(n:Nat)(hx:W32 x):W32 (Dx x n):=Fm _ hx
theorem I6(x:Int)(n:Nat)(w:World)(hx:W32 x)(hn:n=7∨n=8∨n=12∨n=16):Calls prog 198 #[.int .i64 x,.int .i64 n] w fun e w'=>e=.returned (.int .i64 (Dx x n))∧Below w.heap.size w w':=by
 have key:∀p q:Int,p=((2 ^ n:Nat):Int)→q=((2 ^ (32-n):Nat):Int)→bits .or .i64 (x/p) (x*q%4294967296)=Dx x n:=fun p q=>Sy x n hx (by omega) p q
 unfold W32 at hx;go_enter func198,ntmps198
 rcases hn with rfl | rfl | rfl | rfl
 ·have e2:=key 128 33554432 (by decide) (by decide)
  have e3:(x*33554432).tmod 4294967296=x*33554432%4294967296:=Acz (by omega);go_wp2
  go_region
  go_wp2
  go_ret
  exact⟨rfl,(Below.refl _ _).drew⟩
 ·have e2:=key 256 16777216 (by decide) (by decide)
  have e3:(x*16777216).tmod 4294967296=x*16777216%4294967296:=Acz (by omega);go_wp2
  go_region
  go_wp2
  go_ret
  exact⟨rfl,(Below.refl _ _).drew⟩
 ·have e2:=key 4096 1048576 (by decide) (by decide)
  have e3:(x*1048576).tmod 4294967296=x*1048576%4294967296:=Acz (by omega);go_wp2
  go_region
  go_wp2
  go_ret
  exact⟨rfl,(Below.refl _ _).drew⟩
 ·have e2:=key 65536 65536 (by decide) (by decide)
  have e3:(x*65536).tmod 4294967296=x*65536%4294967296:=Acz (by omega);go_wp2
  go_region
  go_wp2
  go_ret
  exact⟨rfl,(Below.refl _ _).drew⟩
def bgn(i:Nat):Int:=[1779033703,3144134277,1013904242,2773480762,1359893119,2600822924,528734635,1541459225].getD i 0
theorem Gh(i:Nat):W32 (bgn i):=by
 unfold bgn W32
 by_cases h:i<8
 ·have:∀i,i<8→0≤bgn i∧bgn i<4294967296:=by decide +kernel
  exact this i h
 ·rw[AcG,Ac7 (by simp;omega)]
  decide
theorem Jv(w:World):Calls prog 144 #[] w fun e w'=>e=.returned (.slice (some ⟨w.heap.size,0,none⟩) 8 8)∧ArrAt w' w.heap.size .i64 3 8 bgn∧Below w.heap.size w w':=by
 go_enter func144,ntmps144;go_wp2
 go_ret
 exact⟨rfl,heap_alloc_new w _,(Below.refl _ w).alloc (Acg _) _⟩
def ordL:List (List Nat):=[
 [0,1,2,3,4,5,6,7,8,9,10,11,12,13,14,15],
 [14,10,4,8,9,15,13,6,1,12,0,2,11,7,5,3],
 [11,8,12,0,5,2,15,13,10,14,3,6,7,1,9,4],
 [7,9,3,1,13,12,11,14,2,6,5,10,4,0,15,8],
 [9,0,5,7,2,4,10,15,14,1,11,12,6,8,3,13],
 [2,12,6,10,0,11,8,3,4,13,7,5,15,14,1,9],
 [12,5,1,15,14,13,4,10,0,7,6,3,9,2,8,11],
 [13,11,7,14,12,1,3,9,5,0,15,4,8,6,2,10],
 [6,15,14,9,11,3,0,8,12,2,13,7,1,4,10,5],
 [10,2,8,4,7,6,1,5,15,11,9,14,3,12,13,0]]
def ord(s i:Nat):Nat:=(ordL.getD s []).getD i 0
def ordI(s i:Nat):Int:=(ord s i:Int)
theorem FK:∀s,s<10→∀i,i<16→ord s i<16:=by decide +kernel
def N0(w:World):List Obj→World
 | []=>w
 | o::os=>N0 (w.alloc o) os
theorem FL:∀(os:List Obj) (w:World) (B:Nat),B≤w.heap.size→Below B w (N0 w os)
 | [],w,B,_=>Below.refl B w
 | o::os,w,B,h=>((Below.refl B w).alloc h o).trans (FL os (w.alloc o) B (by simp;omega))
theorem Jw:∀(os:List Obj) (w:World) (i:Nat) (o:Obj),os[i]?=some o→(N0 w os).heap[w.heap.size+i]?=some o
 | [],_,_,_,h=>by simp at h
 | a::os,w,0,o,h=>by
  have e:a=o:=by simpa using h
  subst e;have h1:=heap_alloc_new w a;have hb:=FL os (w.alloc a) (w.heap.size+1) (by simp);have h2:=hb.block w.heap.size (by omega);exact h2.trans h1
 | a::os,w,i+1,o,h=>by
  have h1:=Jw os (w.alloc a) i o (by simpa using h);have e:(w.alloc a).heap.size+i=w.heap.size+(i+1):=by simp;omega
  rw[e] at h1;exact h1
def UU(b:Nat):Array Value:=((Aco 10).map fun s=>Value.slice (some ⟨b+s,0,none⟩) 16 16).toArray
def I7(b:Nat):List Obj:=(Aco 10).map (fun s=>Obj.cells (WA .i64 16 (ordI s)) 3 (0,0))++[Obj.cells (UU b) 171 (0,0)]
theorem PR(w u:World)(h:u=N0 w (I7 w.heap.size)):(∀s,s<10→u.cell? ⟨w.heap.size+10,s,none⟩=some (.slice (some ⟨w.heap.size+s,0,none⟩) 16 16)∧ArrAt u (w.heap.size+s) .i64 3 16 (ordI s))∧Below w.heap.size w u:=by
 subst h;refine⟨fun s hs=>⟨?_,?_⟩,FL _ _ _ (Acg _)⟩
 ·have h:=Jw (I7 w.heap.size) w 10 _ (by unfold I7;rw[List.getElem?_append_right (by simp)];rfl)
  rw[cell_of_row _ _ _ _ _ _ h];unfold UU;simp[hs]
 ·refine Jw (I7 w.heap.size) w s _ ?_
  unfold I7;rw[List.getElem?_append_left (by simpa using hs)];simp[hs]
theorem PT(w:World):Calls prog 174 #[] w fun e w'=>e=.returned (.slice (some ⟨w.heap.size+10,0,none⟩) 10 10)∧(∀s,s<10→w'.cell? ⟨w.heap.size+10,s,none⟩=some (.slice (some ⟨w.heap.size+s,0,none⟩) 16 16)∧ArrAt w' (w.heap.size+s) .i64 3 16 (ordI s))∧Below w.heap.size w w':=by
 go_enter func174,ntmps174;go_wp2
 go_ret
 exact⟨rfl,PR w _ (by kernel_rfl)⟩
theorem GX(args:Array Value)(w:World):(callFunc 198 args).run prog w=.ok (.enter 198 args) w:=by kernel_rfl
theorem Rr{x y z:Int}(hx:W32 x)(hy:W32 y)(hz:W32 z):-9223372036854775808≤x+y+z:=by unfold W32 at *;omega
theorem Ru{x y z:Int}(hx:W32 x)(hy:W32 y)(hz:W32 z):x+y+z<9223372036854775808:=by unfold W32 at *;omega
theorem AbQ(x y z:Int):Bb (Bb x y) z=(x+y+z)%4294967296:=by unfold Bb;omega
theorem M3{a:Act}{o:Oper}{w:World}{q:Operand}(ho:o.op=.binOp .rem 3 q (.const (.int .i64 4294967296)) 3){x y:Int}(hq:a.eval q=.int .i64 (x+y))(hx:W32 x)(hy:W32 y):(execOp a.eval o).run prog w=.ok (.value (.int .i64 (Bb x y))) w:=by
 unfold W32 at hx hy;have e:(x+y).tmod 4294967296=Bb x y:=by unfold Bb;rw[Acz (by omega)]
 exact BN ho rfl hq rfl (by simp[go_sem,e])
theorem M4{a:Act}{o:Oper}{w:World}{q:Operand}(ho:o.op=.binOp .rem 3 q (.const (.int .i64 4294967296)) 3){x y z:Int}(hq:a.eval q=.int .i64 (x+y+z))(hx:W32 x)(hy:W32 y)(hz:W32 z):(execOp a.eval o).run prog w=.ok (.value (.int .i64 (Bb (Bb x y) z))) w:=by
 unfold W32 at hx hy hz;have e:(x+y+z).tmod 4294967296=Bb (Bb x y) z:=by rw[AbQ,Acz (by omega)]
 exact BN ho rfl hq rfl (by simp[go_sem,e])
def Ht(s:Nat→Int)(a b c d:Nat)(x y:Int):Nat→Int:=
 let s1:=upd s a (Bb (Bb (s a) (s b)) x)
 let s2:=upd s1 d (Dx (Ap (s1 d) (s1 a)) 16)
 let s3:=upd s2 c (Bb (s2 c) (s2 d))
 let s4:=upd s3 b (Dx (Ap (s3 b) (s3 c)) 12)
 let s5:=upd s4 a (Bb (Bb (s4 a) (s4 b)) y)
 let s6:=upd s5 d (Dx (Ap (s5 d) (s5 a)) 8)
 let s7:=upd s6 c (Bb (s6 c) (s6 d))
 upd s7 b (Dx (Ap (s7 b) (s7 c)) 7)
theorem I8(b n cp:Nat)(s0:Nat→Int)(a y c d:Nat)(x z:Int)(w:World)(hR:RowAt w b .i64 3 n s0)(Ws0:∀i,i<n→W32 (s0 i))(ha:a<n)(hy:y<n)(hc:c<n)(hd:d<n)(hx:W32 x)(hz:W32 z):Calls prog 175 #[.slice (some ⟨b,0,none⟩) n cp,.int .i64 (a:Int),.int .i64 (y:Int),.int .i64 (c:Int),.int .i64 (d:Int),.int .i64 x,.int .i64 z] w fun e w' => e=.returned (.tuple #[])∧RowAt w' b .i64 3 n (Ht s0 a y c d x z)∧(∀i,i<n→W32 (Ht s0 a y c d x z i))∧Touch (fun k=>k=b) w w':=by
 have hT:=Touch.refl (fun k=>k=b) w;go_enter func175,ntmps175;obtain⟨s1,hs1⟩:∃f,upd s0 a (Bb (Bb (s0 a) (s0 y)) x)=f:=⟨_,rfl⟩;have Ws1:∀i,i<n→W32 (s1 i):=by rw[←hs1];exact Bd Ws0 (BG _ _)
 go_wp2_with fail;refine Ai (Touch (fun k=>k=b) w) w.heap.size
  [(b,⟨B5 .i64 3 n s0,[(15,B5 .i64 3 n s1)]⟩)]
  [kv (.slice (some ⟨b,0,none⟩) n cp),kv (.int .i64 (a:Int)),kv (.slice (some ⟨b,0,none⟩) n cp),kv (.int .i64 (a:Int)),kv (.pointer (some ⟨b,0+a,none⟩)),kv (.int .i64 (s0 a)),kv (.slice (some ⟨b,0,none⟩) n cp),kv (.int .i64 (y:Int)),kv (.pointer (some ⟨b,0+y,none⟩)),kv (.int .i64 (s0 y)),kv (.int .i64 (s0 a+s0 y)),kv (.int .i64 x),kv (.int .i64 (s0 a+s0 y+x)),kv (.int .i64 (Bb (Bb (s0 a) (s0 y)) x)),kv (.pointer (some ⟨b,0+a,none⟩)),.val fun _=>True]
  [.none,.none,.none,.none,.none,.none,.none,.none,.none,.none,.none,.none,.none,.none,.none,.base 0 1]
  [some 14,some 15,some 16,some 17,some 18,some 19,some 20,some 21,some 22,some 23,some 24,some 25,some 26,some 27,some 28,none]
  [(0,.slice (some ⟨b,0,none⟩) n cp),(1,.int .i64 (a:Int)),(2,.int .i64 (y:Int)),(5,.int .i64 x)]
  [[],[],[],[],[.slot 2,.slot 3],[.slot 4,.base 0 0],[],[],[.slot 6,.slot 7],[.slot 8,.base 0 0],[.slot 5,.slot 9],[],[.slot 10,.slot 11],[.slot 12],[.slot 0,.slot 1],[.slot 14,.base 0 0,.slot 13]]
  [.base 0 1] [14,15,16,17,18,19,20,21,22,23,24,25,26,27,28]
  rfl (by kernel_rfl) ⟨rfl,rfl,rfl,rfl,trivial⟩ (Touch.drew hT) (Acg _) ⟨⟨RowAt.lt hR,hR⟩,trivial⟩ ⟨trivial,trivial⟩ (Cb hT.size)
  ⟨
   sL fun f _=>sV (Ab rfl f.1),
   sL fun f _=>sV (Ab rfl f.2.1),
   sL fun f _=>sV (Ab rfl f.1),
   sL fun f _=>sV (Ab rfl f.2.1),
   sL fun _ k=>sV (An rfl underlying171 As k.1 k.2.1 ha),
   sL fun _ k=>sV (At rfl k.1 (Aw (Ba k.2.1 ha))),
   sL fun f _=>sV (Ab rfl f.1),
   sL fun f _=>sV (Ab rfl f.2.2.1),
   sL fun _ k=>sV (An rfl underlying171 As k.1 k.2.1 hy),
   sL fun _ k=>sV (At rfl k.1 (Aw (Ba k.2.1 hy))),
   sL fun _ k=>sV (BO rfl k.1 k.2.1 (FD (Ws0 a ha) (Ws0 y hy)) (DD (Ws0 a ha) (Ws0 y hy))),
   sL fun f _=>sV (Ab rfl f.2.2.2.1),
   sL fun _ k=>sV (BO rfl k.1 k.2.1 (Rr (Ws0 a ha) (Ws0 y hy) hx) (Ru (Ws0 a ha) (Ws0 y hy) hx)),
   sL fun _ k=>sV (M4 rfl k.1 (Ws0 a ha) (Ws0 y hy) hx),
   sL fun _ k=>sV (An rfl underlying171 As k.1 k.2.1 ha),
   sL fun _ k=>.inl ⟨trivial,fun K hK=>BQ rfl (Gl k.1) k.2.2.1 k.2.1 ha (fun w2 hg ho=>hK _ _ ⟨⟨Ag ho,hs1▸hg⟩,trivial⟩)⟩,
   trivial⟩ ?_
 intro vs0 own v1 hT0 hs0 kn inj;clear inj;replace hR:RowAt v1 b .i64 3 n s1:=kn.1;clear kn hs0;replace hT:=hT0;clear hT0 own;simp only[Am,Act.put,Aci,Acj,Ach];obtain⟨s2,hs2⟩:∃f,upd s1 d (Dx (Ap (s1 d) (s1 a)) 16)=f:=⟨_,rfl⟩;have Ws2:∀i,i<n→W32 (s2 i):=by rw[←hs2];exact Bd Ws1 (EJ 16 (A9 (Ws1 d hd) (Ws1 a ha)))
 go_wp2_with fail;refine Ai (Touch (fun k=>k=b) w) v1.heap.size
  [(b,⟨B5 .i64 3 n s1,[(13,B5 .i64 3 n s2)]⟩)]
  [kv (.slice (some ⟨b,0,none⟩) n cp),kv (.int .i64 (d:Int)),kv (.slice (some ⟨b,0,none⟩) n cp),kv (.int .i64 (d:Int)),kv (.pointer (some ⟨b,0+d,none⟩)),kv (.int .i64 (s1 d)),kv (.slice (some ⟨b,0,none⟩) n cp),kv (.int .i64 (a:Int)),kv (.pointer (some ⟨b,0+a,none⟩)),kv (.int .i64 (s1 a)),kv (.int .i64 (Ap (s1 d) (s1 a))),kv (.int .i64 (Dx (Ap (s1 d) (s1 a)) 16)),kv (.pointer (some ⟨b,0+d,none⟩)),.val fun _=>True]
  [.none,.none,.none,.none,.none,.none,.none,.none,.none,.none,.none,.none,.none,.base 0 1]
  [some 29,some 30,some 31,some 32,some 33,some 34,some 35,some 36,some 37,some 38,some 39,some 40,some 41,none]
  [(0,.slice (some ⟨b,0,none⟩) n cp),(4,.int .i64 (d:Int)),(1,.int .i64 (a:Int))]
  [[],[],[],[],[.slot 2,.slot 3],[.slot 4,.base 0 0],[],[],[.slot 6,.slot 7],[.slot 8,.base 0 0],[.slot 5,.slot 9],[.slot 10],[.slot 0,.slot 1],[.slot 12,.base 0 0,.slot 11]]
  [.base 0 1] [29,30,31,32,33,34,35,36,37,38,39,40,41]
  rfl (by kernel_rfl) ⟨rfl,rfl,rfl,trivial⟩ (Touch.drew hT) (Acg _) ⟨⟨RowAt.lt hR,hR⟩,trivial⟩ ⟨trivial,trivial⟩ (Cb hT.size)
  ⟨
   sL fun f _=>sV (Ab rfl f.1),
   sL fun f _=>sV (Ab rfl f.2.1),
   sL fun f _=>sV (Ab rfl f.1),
   sL fun f _=>sV (Ab rfl f.2.1),
   sL fun _ k=>sV (An rfl underlying171 As k.1 k.2.1 hd),
   sL fun _ k=>sV (At rfl k.1 (Aw (Ba k.2.1 hd))),
   sL fun f _=>sV (Ab rfl f.1),
   sL fun f _=>sV (Ab rfl f.2.2.1),
   sL fun _ k=>sV (An rfl underlying171 As k.1 k.2.1 ha),
   sL fun _ k=>sV (At rfl k.1 (Aw (Ba k.2.1 ha))),
   sL fun _ k=>sV (CJ rfl k.1 k.2.1 (Ws1 d hd) (Ws1 a ha)),
   sL fun _ k=>.inl ⟨trivial,fun K hK=>AH GX rfl (CT k.1 rfl) (I6 _ 16 _ (A9 (Ws1 d hd) (Ws1 a ha)) (by decide)) (fun w' hb=>hK _ _ ⟨Ac hb,rfl⟩)⟩,
   sL fun _ k=>sV (An rfl underlying171 As k.1 k.2.1 hd),
   sL fun _ k=>.inl ⟨trivial,fun K hK=>BQ rfl (Gl k.1) k.2.2.1 k.2.1 hd (fun w2 hg ho=>hK _ _ ⟨⟨Ag ho,hs2▸hg⟩,trivial⟩)⟩,
   trivial⟩ ?_
 intro vs1 own v2 hT1 hs1 kn inj;clear inj;replace hR:RowAt v2 b .i64 3 n s2:=kn.1;clear kn hs1;replace hT:=hT1;clear hT1 own;simp only[Am,Act.put,Aci,Acj,Ach];obtain⟨s3,hs3⟩:∃f,upd s2 c (Bb (s2 c) (s2 d))=f:=⟨_,rfl⟩;have Ws3:∀i,i<n→W32 (s3 i):=by rw[←hs3];exact Bd Ws2 (BG _ _)
 go_wp2_with fail;refine Ai (Touch (fun k=>k=b) w) v2.heap.size
  [(b,⟨B5 .i64 3 n s2,[(13,B5 .i64 3 n s3)]⟩)]
  [kv (.slice (some ⟨b,0,none⟩) n cp),kv (.int .i64 (c:Int)),kv (.slice (some ⟨b,0,none⟩) n cp),kv (.int .i64 (c:Int)),kv (.pointer (some ⟨b,0+c,none⟩)),kv (.int .i64 (s2 c)),kv (.slice (some ⟨b,0,none⟩) n cp),kv (.int .i64 (d:Int)),kv (.pointer (some ⟨b,0+d,none⟩)),kv (.int .i64 (s2 d)),kv (.int .i64 (s2 c+s2 d)),kv (.int .i64 (Bb (s2 c) (s2 d))),kv (.pointer (some ⟨b,0+c,none⟩)),.val fun _=>True]
  [.none,.none,.none,.none,.none,.none,.none,.none,.none,.none,.none,.none,.none,.base 0 1]
  [some 42,some 43,some 44,some 45,some 46,some 47,some 48,some 49,some 50,some 51,some 52,some 53,some 54,none]
  [(0,.slice (some ⟨b,0,none⟩) n cp),(3,.int .i64 (c:Int)),(4,.int .i64 (d:Int))]
  [[],[],[],[],[.slot 2,.slot 3],[.slot 4,.base 0 0],[],[],[.slot 6,.slot 7],[.slot 8,.base 0 0],[.slot 5,.slot 9],[.slot 10],[.slot 0,.slot 1],[.slot 12,.base 0 0,.slot 11]]
  [.base 0 1] [42,43,44,45,46,47,48,49,50,51,52,53,54]
  rfl (by kernel_rfl) ⟨rfl,rfl,rfl,trivial⟩ (Touch.drew hT) (Acg _) ⟨⟨RowAt.lt hR,hR⟩,trivial⟩ ⟨trivial,trivial⟩ (Cb hT.size)
  ⟨
   sL fun f _=>sV (Ab rfl f.1),
   sL fun f _=>sV (Ab rfl f.2.1),
   sL fun f _=>sV (Ab rfl f.1),
   sL fun f _=>sV (Ab rfl f.2.1),
   sL fun _ k=>sV (An rfl underlying171 As k.1 k.2.1 hc),
   sL fun _ k=>sV (At rfl k.1 (Aw (Ba k.2.1 hc))),
   sL fun f _=>sV (Ab rfl f.1),
   sL fun f _=>sV (Ab rfl f.2.2.1),
   sL fun _ k=>sV (An rfl underlying171 As k.1 k.2.1 hd),
   sL fun _ k=>sV (At rfl k.1 (Aw (Ba k.2.1 hd))),
   sL fun _ k=>sV (BO rfl k.1 k.2.1 (FD (Ws2 c hc) (Ws2 d hd)) (DD (Ws2 c hc) (Ws2 d hd))),
   sL fun _ k=>sV (M3 rfl k.1 (Ws2 c hc) (Ws2 d hd)),
   sL fun _ k=>sV (An rfl underlying171 As k.1 k.2.1 hc),
   sL fun _ k=>.inl ⟨trivial,fun K hK=>BQ rfl (Gl k.1) k.2.2.1 k.2.1 hc (fun w2 hg ho=>hK _ _ ⟨⟨Ag ho,hs3▸hg⟩,trivial⟩)⟩,
   trivial⟩ ?_
 intro vs2 own v3 hT2 hs2 kn inj;clear inj;replace hR:RowAt v3 b .i64 3 n s3:=kn.1;clear kn hs2;replace hT:=hT2;clear hT2 own;simp only[Am,Act.put,Aci,Acj,Ach];obtain⟨s4,hs4⟩:∃f,upd s3 y (Dx (Ap (s3 y) (s3 c)) 12)=f:=⟨_,rfl⟩;have Ws4:∀i,i<n→W32 (s4 i):=by rw[←hs4];exact Bd Ws3 (EJ 12 (A9 (Ws3 y hy) (Ws3 c hc)))
 go_wp2_with fail;refine Ai (Touch (fun k=>k=b) w) v3.heap.size
  [(b,⟨B5 .i64 3 n s3,[(13,B5 .i64 3 n s4)]⟩)]
  [kv (.slice (some ⟨b,0,none⟩) n cp),kv (.int .i64 (y:Int)),kv (.slice (some ⟨b,0,none⟩) n cp),kv (.int .i64 (y:Int)),kv (.pointer (some ⟨b,0+y,none⟩)),kv (.int .i64 (s3 y)),kv (.slice (some ⟨b,0,none⟩) n cp),kv (.int .i64 (c:Int)),kv (.pointer (some ⟨b,0+c,none⟩)),kv (.int .i64 (s3 c)),kv (.int .i64 (Ap (s3 y) (s3 c))),kv (.int .i64 (Dx (Ap (s3 y) (s3 c)) 12)),kv (.pointer (some ⟨b,0+y,none⟩)),.val fun _=>True]
  [.none,.none,.none,.none,.none,.none,.none,.none,.none,.none,.none,.none,.none,.base 0 1]
  [some 55,some 56,some 57,some 58,some 59,some 60,some 61,some 62,some 63,some 64,some 65,some 66,some 67,none]
  [(0,.slice (some ⟨b,0,none⟩) n cp),(2,.int .i64 (y:Int)),(3,.int .i64 (c:Int))]
  [[],[],[],[],[.slot 2,.slot 3],[.slot 4,.base 0 0],[],[],[.slot 6,.slot 7],[.slot 8,.base 0 0],[.slot 5,.slot 9],[.slot 10],[.slot 0,.slot 1],[.slot 12,.base 0 0,.slot 11]]
  [.base 0 1] [55,56,57,58,59,60,61,62,63,64,65,66,67]
  rfl (by kernel_rfl) ⟨rfl,rfl,rfl,trivial⟩ (Touch.drew hT) (Acg _) ⟨⟨RowAt.lt hR,hR⟩,trivial⟩ ⟨trivial,trivial⟩ (Cb hT.size)
  ⟨
   sL fun f _=>sV (Ab rfl f.1),
   sL fun f _=>sV (Ab rfl f.2.1),
   sL fun f _=>sV (Ab rfl f.1),
   sL fun f _=>sV (Ab rfl f.2.1),
   sL fun _ k=>sV (An rfl underlying171 As k.1 k.2.1 hy),
   sL fun _ k=>sV (At rfl k.1 (Aw (Ba k.2.1 hy))),
   sL fun f _=>sV (Ab rfl f.1),
   sL fun f _=>sV (Ab rfl f.2.2.1),
   sL fun _ k=>sV (An rfl underlying171 As k.1 k.2.1 hc),
   sL fun _ k=>sV (At rfl k.1 (Aw (Ba k.2.1 hc))),
   sL fun _ k=>sV (CJ rfl k.1 k.2.1 (Ws3 y hy) (Ws3 c hc)),
   sL fun _ k=>.inl ⟨trivial,fun K hK=>AH GX rfl (CT k.1 rfl) (I6 _ 12 _ (A9 (Ws3 y hy) (Ws3 c hc)) (by decide)) (fun w' hb=>hK _ _ ⟨Ac hb,rfl⟩)⟩,
   sL fun _ k=>sV (An rfl underlying171 As k.1 k.2.1 hy),
   sL fun _ k=>.inl ⟨trivial,fun K hK=>BQ rfl (Gl k.1) k.2.2.1 k.2.1 hy (fun w2 hg ho=>hK _ _ ⟨⟨Ag ho,hs4▸hg⟩,trivial⟩)⟩,
   trivial⟩ ?_
 intro vs3 own v4 hT3 hs3 kn inj;clear inj;replace hR:RowAt v4 b .i64 3 n s4:=kn.1;clear kn hs3;replace hT:=hT3;clear hT3 own;simp only[Am,Act.put,Aci,Acj,Ach];obtain⟨s5,hs5⟩:∃f,upd s4 a (Bb (Bb (s4 a) (s4 y)) z)=f:=⟨_,rfl⟩;have Ws5:∀i,i<n→W32 (s5 i):=by rw[←hs5];exact Bd Ws4 (BG _ _)
 go_wp2_with fail;refine Ai (Touch (fun k=>k=b) w) v4.heap.size
  [(b,⟨B5 .i64 3 n s4,[(15,B5 .i64 3 n s5)]⟩)]
  [kv (.slice (some ⟨b,0,none⟩) n cp),kv (.int .i64 (a:Int)),kv (.slice (some ⟨b,0,none⟩) n cp),kv (.int .i64 (a:Int)),kv (.pointer (some ⟨b,0+a,none⟩)),kv (.int .i64 (s4 a)),kv (.slice (some ⟨b,0,none⟩) n cp),kv (.int .i64 (y:Int)),kv (.pointer (some ⟨b,0+y,none⟩)),kv (.int .i64 (s4 y)),kv (.int .i64 (s4 a+s4 y)),kv (.int .i64 z),kv (.int .i64 (s4 a+s4 y+z)),kv (.int .i64 (Bb (Bb (s4 a) (s4 y)) z)),kv (.pointer (some ⟨b,0+a,none⟩)),.val fun _=>True]
  [.none,.none,.none,.none,.none,.none,.none,.none,.none,.none,.none,.none,.none,.none,.none,.base 0 1]
  [some 68,some 69,some 70,some 71,some 72,some 73,some 74,some 75,some 76,some 77,some 78,some 79,some 80,some 81,some 82,none]
  [(0,.slice (some ⟨b,0,none⟩) n cp),(1,.int .i64 (a:Int)),(2,.int .i64 (y:Int)),(6,.int .i64 z)]
  [[],[],[],[],[.slot 2,.slot 3],[.slot 4,.base 0 0],[],[],[.slot 6,.slot 7],[.slot 8,.base 0 0],[.slot 5,.slot 9],[],[.slot 10,.slot 11],[.slot 12],[.slot 0,.slot 1],[.slot 14,.base 0 0,.slot 13]]
  [.base 0 1] [68,69,70,71,72,73,74,75,76,77,78,79,80,81,82]
  rfl (by kernel_rfl) ⟨rfl,rfl,rfl,rfl,trivial⟩ (Touch.drew hT) (Acg _) ⟨⟨RowAt.lt hR,hR⟩,trivial⟩ ⟨trivial,trivial⟩ (Cb hT.size)
  ⟨
   sL fun f _=>sV (Ab rfl f.1),
   sL fun f _=>sV (Ab rfl f.2.1),
   sL fun f _=>sV (Ab rfl f.1),
   sL fun f _=>sV (Ab rfl f.2.1),
   sL fun _ k=>sV (An rfl underlying171 As k.1 k.2.1 ha),
   sL fun _ k=>sV (At rfl k.1 (Aw (Ba k.2.1 ha))),
   sL fun f _=>sV (Ab rfl f.1),
   sL fun f _=>sV (Ab rfl f.2.2.1),
   sL fun _ k=>sV (An rfl underlying171 As k.1 k.2.1 hy),
   sL fun _ k=>sV (At rfl k.1 (Aw (Ba k.2.1 hy))),
   sL fun _ k=>sV (BO rfl k.1 k.2.1 (FD (Ws4 a ha) (Ws4 y hy)) (DD (Ws4 a ha) (Ws4 y hy))),
   sL fun f _=>sV (Ab rfl f.2.2.2.1),
   sL fun _ k=>sV (BO rfl k.1 k.2.1 (Rr (Ws4 a ha) (Ws4 y hy) hz) (Ru (Ws4 a ha) (Ws4 y hy) hz)),
   sL fun _ k=>sV (M4 rfl k.1 (Ws4 a ha) (Ws4 y hy) hz),
   sL fun _ k=>sV (An rfl underlying171 As k.1 k.2.1 ha),
   sL fun _ k=>.inl ⟨trivial,fun K hK=>BQ rfl (Gl k.1) k.2.2.1 k.2.1 ha (fun w2 hg ho=>hK _ _ ⟨⟨Ag ho,hs5▸hg⟩,trivial⟩)⟩,
   trivial⟩ ?_
 intro vs4 own v5 hT4 hs4 kn inj;clear inj;replace hR:RowAt v5 b .i64 3 n s5:=kn.1;clear kn hs4;replace hT:=hT4;clear hT4 own;simp only[Am,Act.put,Aci,Acj,Ach];obtain⟨s6,hs6⟩:∃f,upd s5 d (Dx (Ap (s5 d) (s5 a)) 8)=f:=⟨_,rfl⟩;have Ws6:∀i,i<n→W32 (s6 i):=by rw[←hs6];exact Bd Ws5 (EJ 8 (A9 (Ws5 d hd) (Ws5 a ha)))
 go_wp2_with fail;refine Ai (Touch (fun k=>k=b) w) v5.heap.size
  [(b,⟨B5 .i64 3 n s5,[(13,B5 .i64 3 n s6)]⟩)]
  [kv (.slice (some ⟨b,0,none⟩) n cp),kv (.int .i64 (d:Int)),kv (.slice (some ⟨b,0,none⟩) n cp),kv (.int .i64 (d:Int)),kv (.pointer (some ⟨b,0+d,none⟩)),kv (.int .i64 (s5 d)),kv (.slice (some ⟨b,0,none⟩) n cp),kv (.int .i64 (a:Int)),kv (.pointer (some ⟨b,0+a,none⟩)),kv (.int .i64 (s5 a)),kv (.int .i64 (Ap (s5 d) (s5 a))),kv (.int .i64 (Dx (Ap (s5 d) (s5 a)) 8)),kv (.pointer (some ⟨b,0+d,none⟩)),.val fun _=>True]
  [.none,.none,.none,.none,.none,.none,.none,.none,.none,.none,.none,.none,.none,.base 0 1]
  [some 83,some 84,some 85,some 86,some 87,some 88,some 89,some 90,some 91,some 92,some 93,some 94,some 95,none]
  [(0,.slice (some ⟨b,0,none⟩) n cp),(4,.int .i64 (d:Int)),(1,.int .i64 (a:Int))]
  [[],[],[],[],[.slot 2,.slot 3],[.slot 4,.base 0 0],[],[],[.slot 6,.slot 7],[.slot 8,.base 0 0],[.slot 5,.slot 9],[.slot 10],[.slot 0,.slot 1],[.slot 12,.base 0 0,.slot 11]]
  [.base 0 1] [83,84,85,86,87,88,89,90,91,92,93,94,95]
  rfl (by kernel_rfl) ⟨rfl,rfl,rfl,trivial⟩ (Touch.drew hT) (Acg _) ⟨⟨RowAt.lt hR,hR⟩,trivial⟩ ⟨trivial,trivial⟩ (Cb hT.size)
  ⟨
   sL fun f _=>sV (Ab rfl f.1),
   sL fun f _=>sV (Ab rfl f.2.1),
   sL fun f _=>sV (Ab rfl f.1),
   sL fun f _=>sV (Ab rfl f.2.1),
   sL fun _ k=>sV (An rfl underlying171 As k.1 k.2.1 hd),
   sL fun _ k=>sV (At rfl k.1 (Aw (Ba k.2.1 hd))),
   sL fun f _=>sV (Ab rfl f.1),
   sL fun f _=>sV (Ab rfl f.2.2.1),
   sL fun _ k=>sV (An rfl underlying171 As k.1 k.2.1 ha),
   sL fun _ k=>sV (At rfl k.1 (Aw (Ba k.2.1 ha))),
   sL fun _ k=>sV (CJ rfl k.1 k.2.1 (Ws5 d hd) (Ws5 a ha)),
   sL fun _ k=>.inl ⟨trivial,fun K hK=>AH GX rfl (CT k.1 rfl) (I6 _ 8 _ (A9 (Ws5 d hd) (Ws5 a ha)) (by decide)) (fun w' hb=>hK _ _ ⟨Ac hb,rfl⟩)⟩,
   sL fun _ k=>sV (An rfl underlying171 As k.1 k.2.1 hd),
   sL fun _ k=>.inl ⟨trivial,fun K hK=>BQ rfl (Gl k.1) k.2.2.1 k.2.1 hd (fun w2 hg ho=>hK _ _ ⟨⟨Ag ho,hs6▸hg⟩,trivial⟩)⟩,
   trivial⟩ ?_
 intro vs5 own v6 hT5 hs5 kn inj;clear inj;replace hR:RowAt v6 b .i64 3 n s6:=kn.1;clear kn hs5;replace hT:=hT5;clear hT5 own;simp only[Am,Act.put,Aci,Acj,Ach];obtain⟨s7,hs7⟩:∃f,upd s6 c (Bb (s6 c) (s6 d))=f:=⟨_,rfl⟩;have Ws7:∀i,i<n→W32 (s7 i):=by rw[←hs7];exact Bd Ws6 (BG _ _)
 go_wp2_with fail;refine Ai (Touch (fun k=>k=b) w) v6.heap.size
  [(b,⟨B5 .i64 3 n s6,[(13,B5 .i64 3 n s7)]⟩)]
  [kv (.slice (some ⟨b,0,none⟩) n cp),kv (.int .i64 (c:Int)),kv (.slice (some ⟨b,0,none⟩) n cp),kv (.int .i64 (c:Int)),kv (.pointer (some ⟨b,0+c,none⟩)),kv (.int .i64 (s6 c)),kv (.slice (some ⟨b,0,none⟩) n cp),kv (.int .i64 (d:Int)),kv (.pointer (some ⟨b,0+d,none⟩)),kv (.int .i64 (s6 d)),kv (.int .i64 (s6 c+s6 d)),kv (.int .i64 (Bb (s6 c) (s6 d))),kv (.pointer (some ⟨b,0+c,none⟩)),.val fun _=>True]
  [.none,.none,.none,.none,.none,.none,.none,.none,.none,.none,.none,.none,.none,.base 0 1]
  [some 96,some 97,some 98,some 99,some 100,some 101,some 102,some 103,some 104,some 105,some 106,some 107,some 108,none]
  [(0,.slice (some ⟨b,0,none⟩) n cp),(3,.int .i64 (c:Int)),(4,.int .i64 (d:Int))]
  [[],[],[],[],[.slot 2,.slot 3],[.slot 4,.base 0 0],[],[],[.slot 6,.slot 7],[.slot 8,.base 0 0],[.slot 5,.slot 9],[.slot 10],[.slot 0,.slot 1],[.slot 12,.base 0 0,.slot 11]]
  [.base 0 1] [96,97,98,99,100,101,102,103,104,105,106,107,108]
  rfl (by kernel_rfl) ⟨rfl,rfl,rfl,trivial⟩ (Touch.drew hT) (Acg _) ⟨⟨RowAt.lt hR,hR⟩,trivial⟩ ⟨trivial,trivial⟩ (Cb hT.size)
  ⟨
   sL fun f _=>sV (Ab rfl f.1),
   sL fun f _=>sV (Ab rfl f.2.1),
   sL fun f _=>sV (Ab rfl f.1),
   sL fun f _=>sV (Ab rfl f.2.1),
   sL fun _ k=>sV (An rfl underlying171 As k.1 k.2.1 hc),
   sL fun _ k=>sV (At rfl k.1 (Aw (Ba k.2.1 hc))),
   sL fun f _=>sV (Ab rfl f.1),
   sL fun f _=>sV (Ab rfl f.2.2.1),
   sL fun _ k=>sV (An rfl underlying171 As k.1 k.2.1 hd),
   sL fun _ k=>sV (At rfl k.1 (Aw (Ba k.2.1 hd))),
   sL fun _ k=>sV (BO rfl k.1 k.2.1 (FD (Ws6 c hc) (Ws6 d hd)) (DD (Ws6 c hc) (Ws6 d hd))),
   sL fun _ k=>sV (M3 rfl k.1 (Ws6 c hc) (Ws6 d hd)),
   sL fun _ k=>sV (An rfl underlying171 As k.1 k.2.1 hc),
   sL fun _ k=>.inl ⟨trivial,fun K hK=>BQ rfl (Gl k.1) k.2.2.1 k.2.1 hc (fun w2 hg ho=>hK _ _ ⟨⟨Ag ho,hs7▸hg⟩,trivial⟩)⟩,
   trivial⟩ ?_
 intro vs6 own v7 hT6 hs6 kn inj;clear inj;replace hR:RowAt v7 b .i64 3 n s7:=kn.1;clear kn hs6;replace hT:=hT6;clear hT6 own;simp only[Am,Act.put,Aci,Acj,Ach];obtain⟨s8,hs8⟩:∃f,upd s7 y (Dx (Ap (s7 y) (s7 c)) 7)=f:=⟨_,rfl⟩;have Ws8:∀i,i<n→W32 (s8 i):=by rw[←hs8];exact Bd Ws7 (EJ 7 (A9 (Ws7 y hy) (Ws7 c hc)))
 go_wp2_with fail;refine Ai (Touch (fun k=>k=b) w) v7.heap.size
  [(b,⟨B5 .i64 3 n s7,[(13,B5 .i64 3 n s8)]⟩)]
  [kv (.slice (some ⟨b,0,none⟩) n cp),kv (.int .i64 (y:Int)),kv (.slice (some ⟨b,0,none⟩) n cp),kv (.int .i64 (y:Int)),kv (.pointer (some ⟨b,0+y,none⟩)),kv (.int .i64 (s7 y)),kv (.slice (some ⟨b,0,none⟩) n cp),kv (.int .i64 (c:Int)),kv (.pointer (some ⟨b,0+c,none⟩)),kv (.int .i64 (s7 c)),kv (.int .i64 (Ap (s7 y) (s7 c))),kv (.int .i64 (Dx (Ap (s7 y) (s7 c)) 7)),kv (.pointer (some ⟨b,0+y,none⟩)),.val fun _=>True]
  [.none,.none,.none,.none,.none,.none,.none,.none,.none,.none,.none,.none,.none,.base 0 1]
  [some 109,some 110,some 111,some 112,some 113,some 114,some 115,some 116,some 117,some 118,some 119,some 120,some 121,none]
  [(0,.slice (some ⟨b,0,none⟩) n cp),(2,.int .i64 (y:Int)),(3,.int .i64 (c:Int))]
  [[],[],[],[],[.slot 2,.slot 3],[.slot 4,.base 0 0],[],[],[.slot 6,.slot 7],[.slot 8,.base 0 0],[.slot 5,.slot 9],[.slot 10],[.slot 0,.slot 1],[.slot 12,.base 0 0,.slot 11]]
  [.base 0 1] [109,110,111,112,113,114,115,116,117,118,119,120,121]
  rfl (by kernel_rfl) ⟨rfl,rfl,rfl,trivial⟩ (Touch.drew hT) (Acg _) ⟨⟨RowAt.lt hR,hR⟩,trivial⟩ ⟨trivial,trivial⟩ (Cb hT.size)
  ⟨
   sL fun f _=>sV (Ab rfl f.1),
   sL fun f _=>sV (Ab rfl f.2.1),
   sL fun f _=>sV (Ab rfl f.1),
   sL fun f _=>sV (Ab rfl f.2.1),
   sL fun _ k=>sV (An rfl underlying171 As k.1 k.2.1 hy),
   sL fun _ k=>sV (At rfl k.1 (Aw (Ba k.2.1 hy))),
   sL fun f _=>sV (Ab rfl f.1),
   sL fun f _=>sV (Ab rfl f.2.2.1),
   sL fun _ k=>sV (An rfl underlying171 As k.1 k.2.1 hc),
   sL fun _ k=>sV (At rfl k.1 (Aw (Ba k.2.1 hc))),
   sL fun _ k=>sV (CJ rfl k.1 k.2.1 (Ws7 y hy) (Ws7 c hc)),
   sL fun _ k=>.inl ⟨trivial,fun K hK=>AH GX rfl (CT k.1 rfl) (I6 _ 7 _ (A9 (Ws7 y hy) (Ws7 c hc)) (by decide)) (fun w' hb=>hK _ _ ⟨Ac hb,rfl⟩)⟩,
   sL fun _ k=>sV (An rfl underlying171 As k.1 k.2.1 hy),
   sL fun _ k=>.inl ⟨trivial,fun K hK=>BQ rfl (Gl k.1) k.2.2.1 k.2.1 hy (fun w2 hg ho=>hK _ _ ⟨⟨Ag ho,hs8▸hg⟩,trivial⟩)⟩,
   trivial⟩ ?_
 intro vs7 own v8 hT7 hs7 kn inj;clear inj;replace hR:RowAt v8 b .i64 3 n s8:=kn.1;clear kn hs7;replace hT:=hT7;clear hT7 own;simp only[Am,Act.put,Aci,Acj,Ach];go_wp2_with fail
 have e:Ht s0 a y c d x z=s8:=by
  unfold Ht;simp only[hs1,hs2,hs3,hs4,hs5,hs6,hs7,hs8]
 rw[e];refine bodyPost_end (results_none rfl _ _ _) rfl ?_;exact⟨rfl,hR,Ws8,hT⟩
end Go.Proofs.YthghcjepdhkfdaaGreatDoor
namespace Go.Proofs.YthghcjepdhkfdaaGreatDoor
open Go
section
variable {P:Program} {ops:Array Oper} {Q:Exit→Act→World→Prop}
def CF(ops:Array Oper)(m:Nat):Array Oper:=(ops.toList.take m).toArray
def Sz(P:Program)(ops:Array Oper)(Q:Exit→Act→World→Prop)(m:Nat):Exit→Act→World→Prop
  | .normal,a,w=>wpList P ops Q (ops.toList.drop m) a w
  | e,a,w=>Q e a w
theorem UV{m:Nat}{o:Oper}{a:Act}{K:Act→World→Prop}{r:Result Next}:o.upon P a K (Sz P ops Q m) r=o.upon P a K Q r:=by
  cases r with
  | ok n w=>cases n<;>rfl
  | halt x w=>cases x<;>rfl
theorem Rv{m i:Nat}(h:i<m):(CF ops m)[i]?=ops[i]?:=by
  simp[CF,h]
def KK(o:Oper)(j:Nat):Bool:=o.after.any (fun e=>Region.binds .any e && e.on==j)
def AaT(ops:Array Oper)(m:Nat):Bool:=
  decide (m<ops.size) && ops.all (·.guard.isNone) &&
  (Aco ops.size).all (fun i=>match ops[i]? with | some o=>o.after.all (fun e=>decide (e.on<i)) | none=>true) &&
  (Aco m).all (fun j=>(Aco (m+1)).any (fun i=>decide (j<i) && (match ops[i]? with | some o=>KK o j | none=>false))) &&
  (Aco ops.size).all (fun i=>decide (i≤m) || (match ops[i]? with | some o=>KK o (i-1) | none=>false))
theorem Rw{α:Type}{l:Array α}{p:α→Bool}(h:l.any p=true):∃e∈l,p e=true:=by
  obtain⟨i,hi,hp⟩:=Array.any_eq_true.1 h;exact⟨l[i],Array.getElem_mem hi,hp⟩
theorem I9(n j:Nat):(Array.replicate n false).getD j false=false:=by
  rw[AcR]
  by_cases h:j<n
  · rw[Acx (by simpa using h)]
    simp
  · rw[Acv (by simp;omega)]
    rfl
theorem G7{o:Oper}{ys:Nat→Option Bool}(h:o.guard.isNone=true):Region.wanted o ys=true:=by
  cases hg:o.guard with
  | none=>simp[Region.wanted,hg]
  | some x=>rw[hg] at h;cases h
structure Closed (ops:Array Oper) (listed:Array Bool):Prop where
  size:listed.size=ops.size
  down:∀(i:Nat) (o:Oper),listed.getD i false=true→ops[i]?=some o→∀e∈o.after,Region.binds .any e=true→listed.getD e.on false=true
theorem Fv{listed:Array Bool}{i:Nat}(h:i<listed.size):listed.getD i true=listed.getD i false:=by simp[h]
theorem Closed.set{listed:Array Bool}{i:Nat}(h:Closed ops listed)(hi:i∈Region.ready .any ops listed):Closed ops (listed.setIfInBounds i true):=by
  obtain⟨hun,o,ho,hall⟩:=mem_ready.1 hi;refine⟨by simp[h.size],fun j oj hj hoj e he hb=>?_⟩
  have key:listed.getD e.on false=true:=by
    by_cases hij:i=j
    · subst hij
      rw[ho] at hoj;obtain rfl:=Option.some.inj hoj;exact hall e he hb
    · rw[getD_set_ne false hij] at hj
      exact h.down j oj hj hoj e he hb
  by_cases hie:i=e.on
  · have hl:i<listed.size:=by
      rcases Ac5 i listed.size with h1 | h1
      · exact h1
      · simp[Acv h1] at hun
    rw[←hie];simp[hl]
  · rw[getD_set_ne false hie]
    exact key
theorem Cv {id:Nat} {a0:Act} {w0:World} (m:Nat) (hm:P.follows .mixedOrders=true) (hc:AaT ops m=true)
    (h:wpAny P .any (CF ops m) (Sz P ops Q m) (CF ops m).size (Array.replicate (CF ops m).size false) a0 { w0 with drawn:=w0.drawn+1 }):(Code.region id ops true).wp P Q a0 w0:=by
  simp only[AaT,Acm,decide_eq_true_eq] at hc;obtain⟨⟨⟨⟨hlt,hgd⟩,hdn⟩,hwt⟩,hch⟩:=hc;have hhs:(CF ops m).size=m:=by simp[CF];omega
  have guard:∀(i:Nat) (o:Oper),ops[i]?=some o→o.guard.isNone=true:=fun i o ho=>by
    have hi:=(Array.getElem?_eq_some_iff.1 ho);have:=Array.all_eq_true.1 hgd i hi.1;rw[hi.2] at this;exact this
  have down:∀(i:Nat) (o:Oper),ops[i]?=some o→∀e∈o.after,e.on<i:=fun i o ho e he=>by
    have h1:=List.all_eq_true.1 hdn i (List.mem_range.2 (Array.getElem?_eq_some_iff.1 ho).1);simp only[ho] at h1;have h2:=Array.all_eq_true_iff_forall_mem.1 h1 e he
    simpa using h2
  have chain:∀(i:Nat) (o:Oper),ops[i]?=some o→m<i→∃e∈o.after,Region.binds .any e=true∧e.on=i-1:=fun i o ho hi=>by
    have h1:=List.all_eq_true.1 hch i (List.mem_range.2 (Array.getElem?_eq_some_iff.1 ho).1);simp only[ho,Bool.or_eq_true,decide_eq_true_eq] at h1
    rcases h1 with h1 | h1
    · omega
    · unfold KK at h1
      obtain⟨e,he,hh⟩:=Rw h1;simp only[Acm,beq_iff_eq] at hh;exact⟨e,he,hh.1,hh.2⟩
  have succ:∀j,j<m→∃(i:Nat) (o:Oper),j<i∧i≤m∧ops[i]?=some o∧∃e∈o.after,Region.binds .any e=true∧e.on=j:=fun j hj=>by
    have h1:=List.all_eq_true.1 hwt j (List.mem_range.2 hj);obtain⟨i,hi,hh⟩:=List.any_eq_true.1 h1;simp only[Acm,decide_eq_true_eq] at hh;obtain⟨hji,hw⟩:=hh
    cases ho:ops[i]? with
    | none=>simp only[ho] at hw;cases hw
    | some o =>
      simp only[ho] at hw;unfold KK at hw;obtain⟨e,he,hh⟩:=Rw hw;simp only[Acm,beq_iff_eq] at hh;exact⟨i,o,hji,by have:=List.mem_range.1 hi;omega,ho,e,he,hh.1,hh.2⟩
  have full:∀listed,Closed ops listed→m∈Region.ready .any ops listed→∀j,j<m→listed.getD j false=true:=fun listed hcl hr=>by
    obtain⟨_,om,hom,hall⟩:=mem_ready.1 hr
    have key:∀d j,j<m→m-j≤d→listed.getD j false=true:=by
      intro d
      induction d with
      | zero=>intro j hj hd;omega
      | succ d ih =>
        intro j hj hd;obtain⟨i,o,hji,him,ho,e,he,hb,hon⟩:=succ j hj
        by_cases e1:i=m
        · subst e1
          rw[hom] at ho;obtain rfl:=Option.some.inj ho;rw[←hon];exact hall e he hb
        · rw[←hon]
          exact hcl.down i o (ih i (by omega) (by omega)) ho e he hb
    exact fun j hj=>key m j hj (by omega)
  have done:∀listed,Closed ops listed→Region.ready .any ops listed=[]→∀j,j<ops.size→listed.getD j false=true:=fun listed hcl hr=>by
    have key:∀d j,j≤d→j<ops.size→listed.getD j false=true:=by
      intro d
      induction d with
      | zero =>
        intro j hj hjs;have hj0:j=0:=by omega
        subst hj0
        rcases Bool.eq_false_or_eq_true (listed.getD 0 false) with h1 | h1
        · exact h1
        · exfalso
          have ho:ops[0]?=some (ops[0]'hjs):=Acx hjs;have:0∈Region.ready .any ops listed:=mem_ready.2 ⟨by rw[Fv (by rw[hcl.size];exact hjs)];exact h1,_,ho,fun e he _=>by have:=down 0 _ ho e he;omega⟩;rw[hr] at this;cases this
      | succ d ih =>
        intro j hj hjs
        rcases Bool.eq_false_or_eq_true (listed.getD j false) with h1 | h1
        · exact h1
        · exfalso
          have ho:ops[j]?=some (ops[j]'hjs):=Acx hjs;have:j∈Region.ready .any ops listed:=mem_ready.2 ⟨by rw[Fv (by rw[hcl.size];exact hjs)];exact h1,_,ho,fun e he _=>by have:=down j _ ho e he;exact ih e.on (by omega) (by omega)⟩;rw[hr] at this;cases this
    exact fun j hj=>key j j (Acg _) hj
  refine wp_region_any hm (Ft (fun listed a w=>Closed ops listed ∧
    ((∃fuel lh,lh.size=m∧(∀j,j<m→lh.getD j false=listed.getD j false)∧(∀j,m≤j→listed.getD j false=false)∧wpAny P .any (CF ops m) (Sz P ops Q m) fuel lh a w) ∨
     (∃t,0<t∧(∀j,j<ops.size→(listed.getD j false=true↔j<m+t))∧wpList P ops Q (ops.toList.drop (m+t)) a w))) ?_ ?_ ops.size _ a0 _ ?_ ?_)
  · rintro listed a w i ⟨hcl,hI⟩ hi
    have hi0:=hi;obtain⟨hun,o,ho,hall⟩:=mem_ready.1 hi;have his:i<ops.size:=(Array.getElem?_eq_some_iff.1 ho).1;have hls:i<listed.size:=by rw[hcl.size];exact his
    have hunf:listed.getD i false=false:=by rw[←Fv hls];exact hun
    have hcl':=hcl.set hi0
    have tailStep:∀t,(∀j,j<ops.size→(listed.getD j false=true↔j<m+t))→i=m+t→wpList P ops Q (ops.toList.drop (m+t)) a w→wpOp P ops Q i (fun a' w'=>Closed ops (listed.setIfInBounds i true) ∧
        ((∃fuel lh,lh.size=m∧(∀j,j<m→lh.getD j false=(listed.setIfInBounds i true).getD j false)∧(∀j,m≤j→(listed.setIfInBounds i true).getD j false=false)∧wpAny P .any (CF ops m) (Sz P ops Q m) fuel lh a' w') ∨
         (∃t,0<t∧(∀j,j<ops.size→((listed.setIfInBounds i true).getD j false=true↔j<m+t))∧wpList P ops Q (ops.toList.drop (m+t)) a' w'))) a w:=fun t hl hit hw=>by
      have hd:ops.toList.drop (m+t)=o::ops.toList.drop (m+(t+1)):=by
        rw[List.drop_eq_getElem_cons (by simpa [←hit] using his)];congr 1;have:=(Array.getElem?_eq_some_iff.1 ho).2
        simpa [←hit] using this
      rw[hd] at hw;unfold wpList at hw;rw[if_pos (G7 (guard i o ho))] at hw;unfold wpOp;simp only[ho];rw[if_pos (G7 (guard i o ho))];refine hw.imp (Oper.wp_mono fun a' w' hh=>⟨hcl',.inr ⟨t+1,by omega,fun j hj=>?_,hh⟩⟩) (fun x=>x)
      by_cases hij:i=j
      · subst hij
        simp[hls];omega
      · rw[getD_set_ne false hij,hl j hj]
        omega
    rcases hI with ⟨fuel,lh,hlh,heq,hta,hw⟩ | ⟨t,ht,hl,hw⟩
    · by_cases him:i<m
      · have hmem:i∈Region.ready .any (CF ops m) lh:=mem_ready.2 ⟨by rw[Fv (by omega),heq i him];exact hunf,o,by rw[Rv him];exact ho,fun e he hb=>by
          have h1:=hall e he hb;have h2:=down i o ho e he;rw[heq _ (by omega)];exact h1⟩
        cases fuel with
        | zero =>
          rw[hw.1] at hmem;cases hmem
        | succ fuel =>
          have h1:=hw.2 i hmem;unfold wpOp at h1 ⊢;simp only[Rv him,ho] at h1 ⊢;rw[if_pos (G7 (guard i o ho))] at h1 ⊢
          have mk:∀a' w',wpAny P .any (CF ops m) (Sz P ops Q m) fuel (lh.setIfInBounds i true) a' w'→Closed ops (listed.setIfInBounds i true) ∧
              ((∃fuel lh,lh.size=m∧(∀j,j<m→lh.getD j false=(listed.setIfInBounds i true).getD j false)∧(∀j,m≤j→(listed.setIfInBounds i true).getD j false=false)∧wpAny P .any (CF ops m) (Sz P ops Q m) fuel lh a' w') ∨
               (∃t,0<t∧(∀j,j<ops.size→((listed.setIfInBounds i true).getD j false=true↔j<m+t))∧wpList P ops Q (ops.toList.drop (m+t)) a' w')):=fun a' w' hh =>
            ⟨hcl',.inl ⟨fuel,lh.setIfInBounds i true,by simp[hlh],fun j hj=>by
              by_cases hij:i=j
              · subst hij
                simp[hls,hlh,him]
              · rw[getD_set_ne false hij,getD_set_ne false hij]
                exact heq j hj,fun j hj=>by rw[getD_set_ne false (by omega)];exact hta j hj,hh⟩⟩
          rcases h1 with h1 | ⟨h1,h2⟩
          · left
            unfold Oper.wp at h1;rw[UV] at h1;exact Oper.wp_mono mk h1
          · exact .inr ⟨h1,h2⟩
      · have hie:i=m:=by
          rcases Ac5 m i with h1 | h1
          · obtain⟨e,he,hb,hon⟩:=chain i o ho h1
            have h2:=hall e he hb;rw[hon,hta _ (by omega)] at h2;cases h2
          · omega
        subst hie;have hf:=full listed hcl hi0
        have hnil:Region.ready .any (CF ops i) lh=[]:=by
          cases hr:Region.ready .any (CF ops i) lh with
          | nil=>rfl
          | cons x l =>
            exfalso;have hx:x∈Region.ready .any (CF ops i) lh:=by rw[hr];simp
            obtain⟨h1,ox,hox,_⟩:=mem_ready.1 hx;have hxs:=(Array.getElem?_eq_some_iff.1 hox).1;rw[hhs] at hxs;rw[Fv (by omega),heq x hxs,hf x hxs] at h1;cases h1
        have hq:wpList P ops Q (ops.toList.drop (i+0)) a w:=by
          cases fuel with
          | zero=>exact hw.2
          | succ fuel=>exact hw.1 hnil
        refine tailStep 0 (fun j hj=>?_) rfl hq;constructor
        · intro h1
          rcases Ac5 j i with h2 | h2
          · omega
          · rw[hta j h2] at h1
            cases h1
        · intro h1
          exact hf j (by omega)
    · have hit:i=m+t:=by
        have h0:¬i<m+t:=fun h1=>by
          rw[(hl i his).2 h1] at hunf;cases hunf
        rcases Ac5 (m+t) i with h1 | h1
        · obtain⟨e,he,hb,hon⟩:=chain i o ho (by omega)
          have h2:=hall e he hb;rw[hon] at h2;have:=(hl (i-1) (by omega)).1 h2;omega
        · omega
      exact tailStep t hl hit hw
  · rintro listed a w ⟨hcl,hI⟩ hr
    have hd:=done listed hcl hr
    rcases hI with ⟨fuel,lh,hlh,heq,hta,hw⟩ | ⟨t,ht,hl,hw⟩
    · exfalso
      have h1:=hd m hlt;rw[hta m (Acg _)] at h1;cases h1
    · have hle:ops.size≤m+t:=by
        rcases Ac5 (m+t) ops.size with h1 | h1
        · have:=(hl (m+t) h1).1 (hd _ h1)
          omega
        · exact h1
      rw[List.drop_eq_nil_of_le (by simpa using hle)] at hw;exact hw
  · unfold H8
    refine Acp (List.length_filter_le _ _) ?_;simp
  · refine⟨⟨by simp,fun i o hi=>?_⟩,.inl ⟨_,_,by rw[Array.size_replicate,hhs],fun j hj=>?_,fun j hj=>?_,h⟩⟩
    · rw[I9] at hi
      cases hi
    · rw[I9,I9]
    · exact I9 _ _
end
end Go.Proofs.YthghcjepdhkfdaaGreatDoor
namespace Go.Proofs.YthghcjepdhkfdaaGreatDoor
open Go.RowKit Go.Proofs
open Tryz
theorem Cf{a:Act}{o:Oper}{w:World}{x y:Operand}(ho:o.op=.binOp .mul 3 x y 3){m n:Nat}(hx:a.eval x=.int .i64 (m:Int))(hy:a.eval y=.int .i64 (n:Int))(h:m*n<9223372036854775808):(execOp a.eval o).run prog w=.ok (.value (.int .i64 ((m*n:Nat):Int))) w:=by
 have e:(m:Int)*(n:Int)=((m*n:Nat):Int):=by simp
 rw[←e];exact Gw ho hx hy (by rw[e];omega) (by rw[e];omega)
theorem AG{a:Act}{o:Oper}{w:World}{x y:Operand}(ho:o.op=.binOp .add 3 x y 3){m n:Nat}(hx:a.eval x=.int .i64 (m:Int))(hy:a.eval y=.int .i64 (n:Int))(h:m+n<9223372036854775808):(execOp a.eval o).run prog w=.ok (.value (.int .i64 ((m+n:Nat):Int))) w:=by
 have e:(m:Int)+(n:Int)=((m+n:Nat):Int):=by simp
 rw[←e];exact BO ho hx hy (by omega) (by omega)
theorem DP{a:Act}{o:Oper}{w:World}{x y:Operand}(ho:o.op=.binOp .rem 3 x y 3){m n:Nat}(hx:a.eval x=.int .i64 (m:Int))(hy:a.eval y=.int .i64 (n:Int))(h:0<n):(execOp a.eval o).run prog w=.ok (.value (.int .i64 ((m%n:Nat):Int))) w:=by
 have e:(m:Int).tmod (n:Int)=((m%n:Nat):Int):=by rw[Acz (by omega)];simp
 have hn:¬n=0:=by omega
 exact BN ho rfl hx hy (by simp[go_sem,hn,e])
theorem Kv{n:Int}(h:0≤n∧n<256)(w:World):(convert 5 3 (.int .u8 n)).run prog w=.ok (.int .i64 n) w:=by
 simp[go_sem,Cg (n:=n) (by omega) (by omega)]
def bwd(s:Nat→Int)(i:Nat):Int:=s (4*i)+256*s (4*i+1)+65536*s (4*i+2)+16777216*s (4*i+3)
theorem JP{n:Nat}{s:Nat→Int}(h:Byts n s){i:Nat}(hi:4*i+4≤n):W32 (bwd s i):=by
 have h0:=h (4*i) (by omega);have h1:=h (4*i+1) (by omega);have h2:=h (4*i+2) (by omega);have h3:=h (4*i+3) (by omega);unfold W32 bwd;omega
def IA(m:Nat→Int)(s:Nat)(v:Nat→Int):Nat→Nat→Int
 | 0=>v
 | k+1=>Ht (IA m s v k) k (4+k) (8+k) (12+k) (m (ord s (2*k))) (m (ord s (2*k+1)))
def Kr(m:Nat→Int)(s:Nat)(v:Nat→Int):Nat→Nat→Int
 | 0=>v
 | k+1=>Ht (Kr m s v k) k (4+(k+1)%4) (8+(k+2)%4) (12+(k+3)%4) (m (ord s (8+2*k))) (m (ord s (9+2*k)))
def CK(m:Nat→Int)(v:Nat→Int):Nat→Nat→Int
 | 0=>v
 | k+1=>Kr m k (IA m k (CK m v k) 4) 4
def Bv(h:Nat→Int)(t:Int)(last:Bool)(i:Nat):Int:=
 if i<8 then h i else if i=12 then Ap (bgn 4) (t%4294967296) else if i=13 then Ap (bgn 5) (t/4294967296) else if i=14∧last=true then Ap (bgn 6) 4294967295 else bgn (i-8)
def Bh(h s:Nat→Int)(t:Int)(last:Bool)(i:Nat):Int:=Ap (Ap (h i) (CK (bwd s) (Bv h t last) 10 i)) (CK (bwd s) (Bv h t last) 10 (i+8))
structure Tabs (w:World):Prop where
 beg:∀i,i<8→w.cell? ⟨1,i,none⟩=some (.int .u32 (bgn i))
 ord:∀s,s<10→∀i,i<16→w.cell? ⟨2,s*16+i,none⟩=some (.int .u8 (ordI s i))
theorem Tabs.two{w:World}(h:Tabs w):3≤w.heap.size:=by
 have h0:1<w.heap.size:=World.block_lt_of_cell? w _ (h.beg 0 (by decide));have h1:2<w.heap.size:=World.block_lt_of_cell? w _ (h.ord 0 (by decide) 0 (by decide));omega
theorem Tabs.block{w w':World}(h:Tabs w)(h0:w'.heap[1]?=w.heap[1]?)(h1:w'.heap[2]?=w.heap[2]?):Tabs w':=
 ⟨fun i hi=>(World.cell?_of_block (w:=w) h0).trans (h.beg i hi),fun s hs i hi=>(World.cell?_of_block (w:=w) h1).trans (h.ord s hs i hi)⟩
theorem Tabs.below{B:Nat}{w w':World}(h:Tabs w)(hb:Below B w w')(hB:3≤B):Tabs w':=h.block (hb.block 1 (by omega)) (hb.block 2 (by omega))
theorem Tabs.kept{w w':World}(h:Tabs w)(hb:Below w.heap.size w w'):Tabs w':=h.below hb h.two
theorem Tabs.touch{b:Nat}{w w':World}(h:Tabs w)(ht:Touch (fun x=>x=b) w w')(hb:3≤b):Tabs w':=by
 have:=h.two;exact h.block (ht.block 1 (by omega) (by omega)) (ht.block 2 (by omega) (by omega))
theorem Tabs.alloc{w:World}(h:Tabs w)(o:Obj):Tabs (w.alloc o):=h.kept ((Below.refl _ w).alloc (Acg _) o)
theorem IB(x:Int)(n:Nat)(w:World)(hx:W32 x)(hn:n=7∨n=8∨n=12∨n=16):Calls prog 226 #[.int .u32 x,.int .i64 (-(n:Int))] w fun e w'=>e=.returned (.int .u32 (Dx x n))∧w'=w:=by
 have key:∀(m:Nat) (p q:Int),m=32-n→p=((2 ^ m:Nat):Int)→q=((2 ^ (32-m):Nat):Int)→bits .or .u32 (x*p%4294967296) (x/q)=Dx x n:=fun m p q hm hp hq=>by subst hm;exact Rl x _ hx p q hp hq
 unfold W32 at hx;go_enter func226,ntmps226
 rcases hn with rfl | rfl | rfl | rfl
 ·have e1:bits .and .u64 (IntKind.u64.wrap (-7)) 31=25:=by decide
  have e2:=key 25 33554432 128 (by decide) (by decide) (by decide);go_wp2
  go_ret
  exact⟨rfl,rfl⟩
 ·have e1:bits .and .u64 (IntKind.u64.wrap (-8)) 31=24:=by decide
  have e2:=key 24 16777216 256 (by decide) (by decide) (by decide);go_wp2
  go_ret
  exact⟨rfl,rfl⟩
 ·have e1:bits .and .u64 (IntKind.u64.wrap (-12)) 31=20:=by decide
  have e2:=key 20 1048576 4096 (by decide) (by decide) (by decide);go_wp2
  go_ret
  exact⟨rfl,rfl⟩
 ·have e1:bits .and .u64 (IntKind.u64.wrap (-16)) 31=16:=by decide
  have e2:=key 16 65536 65536 (by decide) (by decide) (by decide);go_wp2
  go_ret
  exact⟨rfl,rfl⟩
theorem FM(a b x:Int):Bb (Bb a b) x=Bb a (Bb b x):=by unfold Bb;omega
def Mg(q:Q4w)(x y:Int):Q4w:=
 let a1:=Bb q.a (Bb q.b x)
 let d1:=Dx (Ap q.d a1) 16
 let c1:=Bb q.c d1
 let b1:=Dx (Ap q.b c1) 12
 let a2:=Bb a1 (Bb b1 y)
 let d2:=Dx (Ap d1 a2) 8
 let c2:=Bb c1 d2
 ⟨a2,Dx (Ap b1 c2) 7,c2,d2⟩
theorem D4(a b c d x y:Int)(w:World)(hb:W32 b)(hd:W32 d):Calls prog 225 #[.int .u32 a,.int .u32 b,.int .u32 c,.int .u32 d,.int .u32 x,.int .u32 y] w fun e w' => e=.returned (.tuple #[.int .u32 (Mg ⟨a,b,c,d⟩ x y).a,.int .u32 (Mg ⟨a,b,c,d⟩ x y).b,.int .u32 (Mg ⟨a,b,c,d⟩ x y).c,.int .u32 (Mg ⟨a,b,c,d⟩ x y).d])∧w'=w:=by
 unfold Mg;dsimp only;obtain⟨a0,h0⟩:∃z,Bb b x=z:=⟨_,rfl⟩;rw[h0];obtain⟨a1,h1⟩:∃z,Bb a a0=z:=⟨_,rfl⟩;rw[h1];have ha1:=h1▸BG a a0;obtain⟨x1,g1⟩:∃z,Ap d a1=z:=⟨_,rfl⟩;rw[g1];have hx1:=g1▸A9 hd ha1;rw[←Cj hd ha1] at g1;obtain⟨d1,k1⟩:∃z,Dx x1 16=z:=⟨_,rfl⟩;rw[k1];have hd1:=k1▸EJ 16 hx1;obtain⟨c1,h2⟩:∃z,Bb c d1=z:=⟨_,rfl⟩;rw[h2];have hc1:=h2▸BG c d1;obtain⟨x2,g2⟩:∃z,Ap b c1=z:=⟨_,rfl⟩;rw[g2];have hx2:=g2▸A9 hb hc1;rw[←Cj hb hc1] at g2;obtain⟨b1,k2⟩:∃z,Dx x2 12=z:=⟨_,rfl⟩;rw[k2];have hb1:=k2▸EJ 12 hx2;obtain⟨b0,h30⟩:∃z,Bb b1 y=z:=⟨_,rfl⟩;rw[h30];obtain⟨a2,h3⟩:∃z,Bb a1 b0=z:=⟨_,rfl⟩;rw[h3];have ha2:=h3▸BG a1 b0;obtain⟨x3,g3⟩:∃z,Ap d1 a2=z:=⟨_,rfl⟩;rw[g3];have hx3:=g3▸A9 hd1 ha2;rw[←Cj hd1 ha2] at g3;obtain⟨d2,k3⟩:∃z,Dx x3 8=z:=⟨_,rfl⟩;rw[k3];have hd2:=k3▸EJ 8 hx3;obtain⟨c2,h4⟩:∃z,Bb c1 d2=z:=⟨_,rfl⟩;rw[h4];have hc2:=h4▸BG c1 d2;obtain⟨x4,g4⟩:∃z,Ap b1 c2=z:=⟨_,rfl⟩;rw[g4];have hx4:=g4▸A9 hb1 hc2;rw[←Cj hb1 hc2] at g4;obtain⟨b2,k4⟩:∃z,Dx x4 7=z:=⟨_,rfl⟩;rw[k4];unfold Bb at h0 h1 h2 h30 h3 h4;have r1:Calls prog 226 #[.int .u32 x1,.int .i64 (-16)] w fun e w'=>e=.returned (.int .u32 (Dx x1 16))∧w'=w:=IB x1 16 w hx1 (by decide)
 have r2:Calls prog 226 #[.int .u32 x2,.int .i64 (-12)] w fun e w'=>e=.returned (.int .u32 (Dx x2 12))∧w'=w:=IB x2 12 w hx2 (by decide)
 have r3:Calls prog 226 #[.int .u32 x3,.int .i64 (-8)] w fun e w'=>e=.returned (.int .u32 (Dx x3 8))∧w'=w:=IB x3 8 w hx3 (by decide)
 have r4:Calls prog 226 #[.int .u32 x4,.int .i64 (-7)] w fun e w'=>e=.returned (.int .u32 (Dx x4 7))∧w'=w:=IB x4 7 w hx4 (by decide)
 rw[k1] at r1;rw[k2] at r2;rw[k3] at r3;rw[k4] at r4;clear k1 k2 k3 k4;unfold W32 at *;go_enter func225,ntmps225;go_wp2_with fail;refine r1.mono ?_;rintro e w1 ⟨rfl,rfl⟩;go_wp2_with fail;refine r2.mono ?_;rintro e w2 ⟨rfl,rfl⟩;go_wp2_with fail;refine r3.mono ?_;rintro e w3 ⟨rfl,rfl⟩;go_wp2_with fail;refine r4.mono ?_;rintro e w4 ⟨rfl,rfl⟩;go_wp2_with fail;exact bodyPost_ret (v:=.tuple #[.int .u32 a2,.int .u32 b2,.int .u32 c2,.int .u32 d2]) (by simp[results,results225,go_sem]) rfl ⟨rfl,rfl⟩
def Eb(s:Nat→Int)(a b c d:Nat)(x y:Int):Nat→Int:=
 upd (upd (upd (upd s a (Mg ⟨s a,s b,s c,s d⟩ x y).a) b (Mg ⟨s a,s b,s c,s d⟩ x y).b) c (Mg ⟨s a,s b,s c,s d⟩ x y).c) d (Mg ⟨s a,s b,s c,s d⟩ x y).d
theorem Fe(s:Nat→Int){a b c d:Nat}(x y:Int)(h1:a≠b)(h2:a≠c)(h3:a≠d)(h4:b≠c)(h5:b≠d)(h6:c≠d):Ht s a b c d x y=Eb s a b c d x y:=by
 funext i
 simp only[Ht,Eb,Mg,upd];have h1':=Ne.symm h1;have h2':=Ne.symm h2;have h3':=Ne.symm h3;have h4':=Ne.symm h4;have h5':=Ne.symm h5;have h6':=Ne.symm h6;simp only[if_pos,if_neg h1,if_neg h2,if_neg h3,if_neg h4,if_neg h5,if_neg h6,if_neg h1',if_neg h2',if_neg h3',if_neg h4',if_neg h5',if_neg h6']
 by_cases ed:i=d
 ·subst ed;simp[h5',h6',FM]
 ·by_cases ec:i=c
  ·subst ec;simp[h4',h6,FM]
  ·by_cases eb:i=b
   ·subst eb;simp[h4,h5,FM]
   ·by_cases ea:i=a
    ·subst ea;simp[eb,ec,ed,FM]
    ·simp[ea,eb,ec,ed]
theorem Dn{n:Nat}{s:Nat→Int}{a b c d:Nat}{x y:Int}(h:∀i,i<n→W32 (s i))(hb:b<n)(hd:d<n):∀i,i<n→W32 (Eb s a b c d x y i):=by
 have wb:=h b hb;have wd:=h d hd;refine Bd (Bd (Bd (Bd h ?_) ?_) ?_) ?_
 ·exact BG _ _
 ·exact EJ 7 (A9 (EJ 12 (A9 wb (BG _ _))) (BG _ _))
 ·exact BG _ _
 ·exact EJ 8 (A9 (EJ 16 (A9 wd (BG _ _))) (BG _ _))
end Go.Proofs.YthghcjepdhkfdaaGreatDoor
namespace Go.Proofs.YthghcjepdhkfdaaGreatDoor.Fld
def U64(x:Int):Prop:=0≤x∧x<18446744073709551616
def Bit(c:Int):Prop:=c=0∨c=1
def Sum3(x y c lo hi:Int):Prop:=U64 lo∧Bit hi∧lo+18446744073709551616*hi=x+y+c
theorem Sum3.lo{x y c lo hi:Int}(h:Sum3 x y c lo hi):U64 lo:=h.1
theorem Sum3.hi{x y c lo hi:Int}(h:Sum3 x y c lo hi):Bit hi:=h.2.1
theorem Bit.u64{c:Int}(h:Bit c):U64 c:=by unfold Bit at h;unfold U64;omega
theorem bit0:Bit 0:=Or.inl rfl
theorem Dl:U64 0:=bit0.u64
def V4(a b c d:Int):Int:=a+18446744073709551616*b+340282366920938463463374607431768211456*c+6277101735386680763835789423207666416102355444464034512896*d
def Bm:Int:=115792089237316195423570985008687907853269984665640564039457584007913129639936
def P255:Int:=57896044618658097711785492504343953926634992332820282019728792003956564819949
theorem DE{a b c d:Int}(ha:U64 a)(hb:U64 b)(hc:U64 c)(hd:U64 d):0≤V4 a b c d∧V4 a b c d<Bm:=by
 unfold U64 at ha hb hc hd;unfold V4 Bm;omega
theorem N1{x0 x1 x2 x3 n y0 y1 y2 y3 c0 c1 c2 c3:Int}(s0:Sum3 x0 n 0 y0 c0)(s1:Sum3 x1 c0 0 y1 c1)(s2:Sum3 x2 c1 0 y2 c2)(s3:Sum3 x3 c2 0 y3 c3):V4 y0 y1 y2 y3+Bm*c3=V4 x0 x1 x2 x3+n:=by
 unfold Sum3 at s0 s1 s2 s3;unfold V4 Bm;omega
theorem UW{X Y Z a b c:Int}(hX:0≤X∧X<Bm)(hY:0≤Y∧Y<Bm)(hZ:0≤Z∧Z<Bm)(hc0:0≤c)(hc:c≤38)(ha:Bit a)(h1:Y+Bm*a=X+38*c)(h2:Z+Bm*b=Y+38*a):∃k:Int,Z=X+Bm*c+k*P255:=by
 unfold Bm P255 at *;unfold Bit at ha
 rcases ha with rfl | rfl
 ·exact⟨-2*c,by omega⟩
 ·exact⟨-2*c-2,by omega⟩
theorem PU{A R Z Y t u v a b c:Int}(hA:0≤A∧A<57896044618658097711785492504343953926634992332820282019728792003956564819968)(hR:0≤R∧R<57896044618658097711785492504343953926634992332820282019728792003956564819968)(hZ:0≤Z∧Z<57896044618658097711785492504343953926634992332820282019728792003956564819968)(hY:0≤Y)(ha:Bit a)(ht:Bit t)(hu:Bit u)(hv:Bit v)(hb:Bit b)(hc:Bit c)(h1:Y+Bm*a=A+19*t)(h2:R+57896044618658097711785492504343953926634992332820282019728792003956564819968*u+Bm*b=Y+19)(h3:Z+57896044618658097711785492504343953926634992332820282019728792003956564819968*v+Bm*c=Y+19*u):Z+P255*(t+u)=A+57896044618658097711785492504343953926634992332820282019728792003956564819968*t∧0≤Z∧Z<P255:=by
 unfold Bm P255 at *;unfold Bit at *;have ea:a=0:=by omega
 subst ea;have eb:b=0:=by omega
 subst eb;have ec:c=0:=by omega
 subst ec
 rcases hu with rfl | rfl
 ·have ev:v=0:=by omega
  subst ev;exact⟨by omega,by omega,by omega⟩
 ·have ev:v=1:=by omega
  subst ev;exact⟨by omega,by omega,by omega⟩
theorem N2{x:Int}(h:U64 x):Bit (x/9223372036854775808):=by unfold U64 at h;unfold Bit;omega
theorem KL{a b c d:Int}(ha:U64 a)(hb:U64 b)(hc:U64 c):0≤V4 a b c (d%9223372036854775808)∧V4 a b c (d%9223372036854775808)<57896044618658097711785492504343953926634992332820282019728792003956564819968:=by
 unfold U64 V4 at *;have:0≤d%9223372036854775808∧d%9223372036854775808<9223372036854775808:=by omega
 omega
theorem Jx(a b c d:Int):V4 a b c d=V4 a b c (d%9223372036854775808)+57896044618658097711785492504343953926634992332820282019728792003956564819968*(d/9223372036854775808):=by
 unfold V4;have:d=d%9223372036854775808+9223372036854775808*(d/9223372036854775808):=by omega
 omega
theorem Jy{x0 x1 x2 x3 y0 y1 y2 y3 a r0 r1 r2 r3 b z0 z1 z2 z3 c:Int}(hx0:U64 x0)(hx1:U64 x1)(hx2:U64 x2)(hx3:U64 x3)(hy0:U64 y0)(hy1:U64 y1)(hy2:U64 y2)(hy3:U64 y3)(hr0:U64 r0)(hr1:U64 r1)(hr2:U64 r2)(hr3:U64 r3)(hz0:U64 z0)(hz1:U64 z1)(hz2:U64 z2)(hz3:U64 z3)(ha:Bit a)(hb:Bit b)(hc:Bit c)(h1:V4 y0 y1 y2 y3+Bm*a=V4 x0 x1 x2 (x3%9223372036854775808)+19*(x3/9223372036854775808))(h2:V4 r0 r1 r2 r3+Bm*b=V4 y0 y1 y2 y3+19)(h3:V4 z0 z1 z2 z3+Bm*c=V4 y0 y1 y2 y3+19*(r3/9223372036854775808)):V4 z0 z1 z2 (z3%9223372036854775808)=V4 x0 x1 x2 x3%P255:=by
 rw[Jx r0 r1 r2 r3] at h2;rw[Jx z0 z1 z2 z3] at h3;obtain⟨e,l1,l2⟩:=PU (KL hx0 hx1 hx2) (KL hr0 hr1 hr2) (KL hz0 hz1 hz2) (DE hy0 hy1 hy2 hy3).1 ha (N2 hx3) (N2 hr3) (N2 hz3) hb hc h1 h2 h3;rw[Jx x0 x1 x2 x3,←e,AcQ,AcN l1 l2]
end Go.Proofs.YthghcjepdhkfdaaGreatDoor.Fld
namespace Go.Proofs.YthghcjepdhkfdaaGreatDoor.Fld
open Go.RowKit Go.Proofs
open Tryz
theorem M5(z:Int)(h0:0≤z)(h1:z<18446744073709551616):bits .and .u64 z 9223372036854775807=z%9223372036854775808:=by go_bits2
theorem ZI(z:Int)(h:U64 z):IntKind.u64.wrap (19*(z/9223372036854775808))=19*(z/9223372036854775808):=by
 unfold U64 at h;rw[IntKind.wrap_u64];omega
theorem M6(z:Int):U64 (z%9223372036854775808):=by unfold U64;omega
theorem M7{z:Int}(h:U64 z):U64 (19*(z/9223372036854775808)):=by unfold U64 at *;omega
theorem ZZ:U64 19:=by unfold U64;omega
theorem Hid.mk{p:Prop}(h:p):Hid p:=h
theorem Ey(x y c:Int)(hx:U64 x)(hy:U64 y)(hc:Bit c)(w:World):∃lo hi,Sum3 x y c lo hi∧(callFunc 196 #[.int .u64 x,.int .u64 y,.int .u64 c]).run prog w = .ok (.value (.tuple #[.int .u64 lo,.int .u64 hi])) w:=by
 unfold U64 at hx hy;unfold Bit at hc;refine⟨(x+y+c)%18446744073709551616,(x+y+c)/18446744073709551616,⟨⟨?_,?_⟩,?_,?_⟩,?_⟩
 ·omega
 ·omega
 ·unfold Bit;omega
 ·omega
 rw[run_callFunc_extern func196 (by kernel_rfl) (by kernel_rfl) (by kernel_rfl) (e:=add64Entry) (by kernel_rfl),run_add64 x y c (by omega) (by omega) (by omega) (by omega)];rfl
theorem FN{o:Oper}{a:Act}{next:Act→World→Prop}{Q:Exit→Act→World→Prop}{x y c:Int}{w:World}(hx:U64 x)(hy:U64 y)(hc:Bit c)(h:∀lo hi,Sum3 x y c lo hi→U64 lo→U64 hi→Bit hi→next (a.put o.dst (.tuple #[.int .u64 lo,.int .u64 hi])) w):o.upon prog a next Q ((callFunc 196 #[.int .u64 x,.int .u64 y,.int .u64 c]).run prog w):=by
 obtain⟨lo,hi,hs,e⟩:=Ey x y c hx hy hc w;rw[e];exact h lo hi hs hs.lo hs.hi.u64 hs.hi
theorem DF(x0 x1 x2 x3 n:Int)(w:World)(h0:U64 x0)(h1:U64 x1)(h2:U64 x2)(h3:U64 x3)(hn:U64 n):Calls prog 170 #[.agg #[.int .u64 x0,.int .u64 x1,.int .u64 x2,.int .u64 x3],.int .u64 n] w fun e w' => ∃y0 y1 y2 y3 c,U64 y0∧U64 y1∧U64 y2∧U64 y3∧Bit c∧V4 y0 y1 y2 y3+Bm*c=V4 x0 x1 x2 x3+n ∧ e=.returned (.tuple #[.agg #[.int .u64 y0,.int .u64 y1,.int .u64 y2,.int .u64 y3],.int .u64 c]) ∧ w'=(w.alloc (.cells #[.int .u64 y0,.int .u64 y1,.int .u64 y2,.int .u64 y3] 142)).alloc (.cells #[.int .u64 y0,.int .u64 y1,.int .u64 y2,.int .u64 y3] 142):=by
 have hb0:=bit0;go_enter func170,ntmps170;go_wp2;refine wp_loop_rounds 5 ?_;rw[rounds_succ];go_wp2;refine FN (by assumption) (by assumption) (by assumption) ?_;intro y0 c0 s0 l0 k0 b0;go_wp2;rw[rounds_succ];go_wp2;refine FN (by assumption) (by assumption) (by assumption) ?_;intro y1 c1 s1 l1 k1 b1;go_wp2;rw[rounds_succ];go_wp2;refine FN (by assumption) (by assumption) (by assumption) ?_;intro y2 c2 s2 l2 k2 b2;go_wp2;rw[rounds_succ];go_wp2;refine FN (by assumption) (by assumption) (by assumption) ?_;intro y3 c3 s3 l3 k3 b3;go_wp2;rw[rounds_succ];go_wp2;exact bodyPost_ret (v:=.tuple #[.agg #[.int .u64 y0,.int .u64 y1,.int .u64 y2,.int .u64 y3],.int .u64 c3]) (by simp[results,results170,go_sem]) rfl
  ⟨y0,y1,y2,y3,c3,l0,l1,l2,l3,b3,N1 s0 s1 s2 s3,rfl,rfl⟩
theorem Ov(x0 x1 x2 x3 n:Int)(w:World)(h0:U64 x0)(h1:U64 x1)(h2:U64 x2)(h3:U64 x3)(hn:0≤n)(hn2:n≤38):Calls prog 169 #[.agg #[.int .u64 x0,.int .u64 x1,.int .u64 x2,.int .u64 x3],.int .u64 n] w fun e w' => ∃y0 y1 y2 y3,U64 y0∧U64 y1∧U64 y2∧U64 y3∧(∃k:Int,V4 y0 y1 y2 y3=V4 x0 x1 x2 x3+Bm*n+k*P255) ∧ e=.returned (.agg #[.int .u64 y0,.int .u64 y1,.int .u64 y2,.int .u64 y3])∧Below w.heap.size w w':=by
 go_enter func169,ntmps169;go_wp2_with fail;refine(DF _ _ _ _ _ _ h0 h1 h2 h3 (by unfold U64;omega)).mono ?_;rintro e w1 ⟨y0,y1,y2,y3,a,hy0,hy1,hy2,hy3,ha,e1,rfl,rfl⟩;have E1:Hid (V4 y0 y1 y2 y3+Bm*a=V4 x0 x1 x2 x3+38*n):=e1;clear e1;have ha0:0≤a:=by unfold Bit at ha;omega
 have ha1:a≤1:=by unfold Bit at ha;omega
 go_wp2_with fail;refine(DF _ _ _ _ _ _ hy0 hy1 hy2 hy3 (by unfold U64;omega)).mono ?_;rintro e w1 ⟨z0,z1,z2,z3,b,hz0,hz1,hz2,hz3,hb,e2,rfl,rfl⟩;have E2:Hid (V4 z0 z1 z2 z3+Bm*b=V4 y0 y1 y2 y3+38*a):=e2;clear e2;go_wp2;refine bodyPost_ret (v:=.agg #[.int .u64 z0,.int .u64 z1,.int .u64 z2,.int .u64 z3]) (by simp[results,results169,go_sem]) rfl
  ⟨z0,z1,z2,z3,hz0,hz1,hz2,hz3,UW (DE h0 h1 h2 h3) (DE hy0 hy1 hy2 hy3) (DE hz0 hz1 hz2 hz3) hn hn2 ha E1.out E2.out,rfl,?_⟩
 repeat first | exact Below.refl _ _ | refine Below.alloc ?_ (by simp<;>omega) _
theorem M8(x0 x1 x2 x3:Int)(w:World)(h0:U64 x0)(h1:U64 x1)(h2:U64 x2)(h3:U64 x3):Calls prog 138 #[.agg #[.int .u64 x0,.int .u64 x1,.int .u64 x2,.int .u64 x3]] w fun e w' => ∃y0 y1 y2 y3,U64 y0∧U64 y1∧U64 y2∧U64 y3∧V4 y0 y1 y2 y3=V4 x0 x1 x2 x3%P255 ∧ e=.returned (.agg #[.int .u64 y0,.int .u64 y1,.int .u64 y2,.int .u64 y3])∧Below w.heap.size w w':=by
 have m3:=M5 x3 h3.1 h3.2;have t3:=ZI x3 h3;go_enter func138,ntmps138;go_wp2_with fail;refine(DF _ _ _ _ _ _ h0 h1 h2 (M6 x3) (M7 h3)).mono ?_;rintro e w1 ⟨y0,y1,y2,y3,a,hy0,hy1,hy2,hy3,ha,e1,rfl,rfl⟩;have E1:=Hid.mk e1;clear e1;go_wp2_with fail;refine(DF _ _ _ _ _ _ hy0 hy1 hy2 hy3 ZZ).mono ?_;rintro e w1 ⟨r0,r1,r2,r3,b,hr0,hr1,hr2,hr3,hb,e2,rfl,rfl⟩;have E2:=Hid.mk e2;clear e2;have tr:=ZI r3 hr3;go_wp2_with fail;refine(DF _ _ _ _ _ _ hy0 hy1 hy2 hy3 (M7 hr3)).mono ?_;rintro e w1 ⟨z0,z1,z2,z3,c,hz0,hz1,hz2,hz3,hc,e3,rfl,rfl⟩;have E3:=Hid.mk e3;clear e3;have mz:=M5 z3 hz3.1 hz3.2;go_wp2;refine bodyPost_ret (v:=.agg #[.int .u64 z0,.int .u64 z1,.int .u64 z2,.int .u64 (z3%9223372036854775808)]) (by simp[results,results138,go_sem]) rfl
  ⟨z0,z1,z2,_,hz0,hz1,hz2,M6 z3,Jy h0 h1 h2 h3 hy0 hy1 hy2 hy3 hr0 hr1 hr2 hr3 hz0 hz1 hz2 hz3 ha hb hc E1.out E2.out E3.out,rfl,?_⟩
 repeat first | exact Below.refl _ _ | refine Below.alloc ?_ (by simp<;>omega) _
def BR(x:Int):Prop:=0≤x∧x<256
theorem Bz(a b:Int)(k:Nat)(ha:0≤a)(hb:0≤b)(hk:a<2 ^ k)(hs:a+b*2 ^ k<18446744073709551616):bits BinOp.or IntKind.u64 a (b*2 ^ k)=a+b*2 ^ k:=by
 obtain⟨A,rfl⟩:=Ac3 ha;obtain⟨B,rfl⟩:=Ac3 hb;have e:((B:Int)*2 ^ k)=((B*2 ^ k:Nat):Int):=by rw[Int.natCast_mul,Int.natCast_pow];rfl
 have hA:A<2 ^ k:=by exact_mod_cast hk
 rw[e] at hs ⊢;rw[bits_or_u64_nat _ _ (by omega) (by omega),Nat.or_comm,Nat.mul_comm,←Nat.two_pow_add_eq_or_of_lt hA B];omega
theorem A2(z:Int)(h0:0≤z)(h1:z<18446744073709551616):IntKind.u64.wrap z=z:=by rw[IntKind.wrap_u64];omega
theorem KM(x0 x1 x2 x3 x4 x5 x6 x7:Int)(h0:BR x0)(h1:BR x1)(h2:BR x2)(h3:BR x3)(h4:BR x4)(h5:BR x5)(h6:BR x6)(h7:BR x7):bits BinOp.or IntKind.u64 (bits BinOp.or IntKind.u64 (bits BinOp.or IntKind.u64 (bits BinOp.or IntKind.u64 (bits BinOp.or IntKind.u64 (bits BinOp.or IntKind.u64 (bits BinOp.or IntKind.u64 (IntKind.u64.wrap x0) (IntKind.u64.wrap (IntKind.u64.wrap x1*256))) (IntKind.u64.wrap (IntKind.u64.wrap x2*65536))) (IntKind.u64.wrap (IntKind.u64.wrap x3*16777216))) (IntKind.u64.wrap (IntKind.u64.wrap x4*4294967296))) (IntKind.u64.wrap (IntKind.u64.wrap x5*1099511627776))) (IntKind.u64.wrap (IntKind.u64.wrap x6*281474976710656))) (IntKind.u64.wrap (IntKind.u64.wrap x7*72057594037927936)) = x0+x1*256+x2*65536+x3*16777216+x4*4294967296+x5*1099511627776+x6*281474976710656+x7*72057594037927936:=by
 unfold BR at *
 rw[A2 x0 (by omega) (by omega),A2 x1 (by omega) (by omega),A2 x2 (by omega) (by omega),A2 x3 (by omega) (by omega),
  A2 x4 (by omega) (by omega),A2 x5 (by omega) (by omega),A2 x6 (by omega) (by omega),A2 x7 (by omega) (by omega)]
 rw[A2 (x1*256) (by omega) (by omega),A2 (x2*65536) (by omega) (by omega),A2 (x3*16777216) (by omega) (by omega),
  A2 (x4*4294967296) (by omega) (by omega),A2 (x5*1099511627776) (by omega) (by omega),A2 (x6*281474976710656) (by omega) (by omega),A2 (x7*72057594037927936) (by omega) (by omega)]
 rw[show bits BinOp.or IntKind.u64 x0 (x1*256)=x0+x1*256 from Bz _ _ 8 (by omega) (by omega) (by omega) (by omega)];rw[show bits BinOp.or IntKind.u64 (x0+x1*256) (x2*65536)=x0+x1*256+x2*65536 from Bz _ _ 16 (by omega) (by omega) (by omega) (by omega)];rw[show bits BinOp.or IntKind.u64 (x0+x1*256+x2*65536) (x3*16777216)=x0+x1*256+x2*65536+x3*16777216 from Bz _ _ 24 (by omega) (by omega) (by omega) (by omega)];rw[show bits BinOp.or IntKind.u64 (x0+x1*256+x2*65536+x3*16777216) (x4*4294967296)=x0+x1*256+x2*65536+x3*16777216+x4*4294967296 from Bz _ _ 32 (by omega) (by omega) (by omega) (by omega)];rw[show bits BinOp.or IntKind.u64 (x0+x1*256+x2*65536+x3*16777216+x4*4294967296) (x5*1099511627776)=x0+x1*256+x2*65536+x3*16777216+x4*4294967296+x5*1099511627776 from Bz _ _ 40 (by omega) (by omega) (by omega) (by omega)];rw[show bits BinOp.or IntKind.u64 (x0+x1*256+x2*65536+x3*16777216+x4*4294967296+x5*1099511627776) (x6*281474976710656)=x0+x1*256+x2*65536+x3*16777216+x4*4294967296+x5*1099511627776+x6*281474976710656 from Bz _ _ 48 (by omega) (by omega) (by omega) (by omega)];exact Bz _ _ 56 (by omega) (by omega) (by omega) (by omega)
def V8(x0 x1 x2 x3 x4 x5 x6 x7:Int):Int:=x0+x1*256+x2*65536+x3*16777216+x4*4294967296+x5*1099511627776+x6*281474976710656+x7*72057594037927936
theorem N3{k:IntKind}{a b:Int}(h:a=b):Ending.returned (.int k a)=.returned (.int k b):=by rw[h]
theorem KN(b off cap:Nat)(x0 x1 x2 x3 x4 x5 x6 x7:Int)(w:World)(h0:BR x0)(h1:BR x1)(h2:BR x2)(h3:BR x3)(h4:BR x4)(h5:BR x5)(h6:BR x6)(h7:BR x7)(c0:w.cell? ⟨b,off,none⟩=some (.int .u8 x0))(c1:w.cell? ⟨b,off+1,none⟩=some (.int .u8 x1))(c2:w.cell? ⟨b,off+2,none⟩=some (.int .u8 x2))(c3:w.cell? ⟨b,off+3,none⟩=some (.int .u8 x3))(c4:w.cell? ⟨b,off+4,none⟩=some (.int .u8 x4))(c5:w.cell? ⟨b,off+5,none⟩=some (.int .u8 x5))(c6:w.cell? ⟨b,off+6,none⟩=some (.int .u8 x6))(c7:w.cell? ⟨b,off+7,none⟩=some (.int .u8 x7)):Calls prog 164 #[.slice (some ⟨b,off,none⟩) 8 cap] w fun e w'=>e=.returned (.int .u64 (V8 x0 x1 x2 x3 x4 x5 x6 x7))∧∃n,w'=w.drewN n:=by
 go_enter func164,ntmps164;go_wp2
 go_quiet (fail)
 go_wp2
 go_ret
 exact⟨N3 (KM x0 x1 x2 x3 x4 x5 x6 x7 h0 h1 h2 h3 h4 h5 h6 h7),_,rfl⟩
def byt(n:Int)(i:Nat):Int:=n/256 ^ i%256
def BA(n:Int):Array Value:=((Aco 32).map fun i=>Value.int .u8 (byt n i)).toArray
theorem Ah(n:Int):(BA n).size=32:=by simp[BA]
theorem BH(n:Int)(i:Nat)(h:i<32):(BA n)[i]?=some (.int .u8 (byt n i)):=by
 simp[BA,h]
theorem Bq(n:Int)(i:Nat):BR (byt n i):=by unfold byt BR;omega
def Ec(n:Int)(k:Nat):Int:=n/256 ^ k%18446744073709551616
theorem AR(n:Int)(k:Nat):U64 (Ec n k):=by unfold Ec U64;omega
theorem Rx(n:Int)(k:Nat):V8 (byt n k) (byt n (k+1)) (byt n (k+2)) (byt n (k+3)) (byt n (k+4)) (byt n (k+5)) (byt n (k+6)) (byt n (k+7))=Ec n k:=by
 unfold V8 byt Ec;have e:∀j:Nat,n/256 ^ (k+j)=n/256 ^ k/256 ^ j:=fun j=>by rw[Ac2,AcO (Int.pow_nonneg (by decide))]
 rw[e 1,e 2,e 3,e 4,e 5,e 6,e 7];generalize n/256 ^ k=z;simp only[Acr,Int.pow_zero,Int.reduceMul,Int.one_mul];omega
theorem Below.drewN'{B:Nat}{a w:World}(h:Below B a w)(n:Nat):Below B a (w.drewN n):=⟨h.os,h.tape,h.output,h.size,h.block⟩
theorem Yb(n:Int)(b k cap:Nat)(w:World)(hk:k+8≤32)(hc:∀i,i<32→w.cell? ⟨b,i,none⟩=some (.int .u8 (byt n i))):Calls prog 164 #[.slice (some ⟨b,k,none⟩) 8 cap] w fun e w'=>e=.returned (.int .u64 (Ec n k))∧∃m,w'=w.drewN m:=by
 rw[←Rx];exact KN b k cap _ _ _ _ _ _ _ _ w (Bq _ _) (Bq _ _) (Bq _ _) (Bq _ _) (Bq _ _) (Bq _ _) (Bq _ _) (Bq _ _)
  (hc _ (by omega)) (hc _ (by omega)) (hc _ (by omega)) (hc _ (by omega)) (hc _ (by omega)) (hc _ (by omega)) (hc _ (by omega)) (hc _ (by omega))
theorem Ed(n:Int)(w:World):Calls prog 133 #[.agg (BA n)] w fun e w'=>e=.returned (.agg #[.int .u64 (Ec n 0),.int .u64 (Ec n 8),.int .u64 (Ec n 16),.int .u64 (Ec n 24)])∧Below w.heap.size w w':=by
 have hsz:=Ah n;go_enter func133,ntmps133;go_wp2
 go_region_with (go_at_call 164;refine(Yb n _ _ _ _ ?_ ?_).mono ?_;omega;exact(fun i hi=>(cell_of_row _ _ i _ _ (0,0) (heap_alloc2_old w _ _)).trans (BH n i hi));rintro e w' ⟨rfl,m,rfl⟩)
 go_wp2;refine bodyPost_ret (v:=.agg #[.int .u64 (Ec n 0),.int .u64 (Ec n 8),.int .u64 (Ec n 16),.int .u64 (Ec n 24)]) (by simp[results,results133,go_sem]) rfl ⟨rfl,?_⟩
 repeat first | exact Below.refl _ _ | refine Below.alloc ?_ (by simp<;>omega) _ | refine Below.setCell ?_ (by simp<;>omega) _ | refine Below.drewN' ?_ _
theorem FO(b off cap:Nat)(x:Int)(v0 v1 v2 v3 v4 v5 v6 v7:Value)(w:World)(c0:w.cell? ⟨b,off,none⟩=some v0)(c1:w.cell? ⟨b,off+1,none⟩=some v1)(c2:w.cell? ⟨b,off+2,none⟩=some v2)(c3:w.cell? ⟨b,off+3,none⟩=some v3)(c4:w.cell? ⟨b,off+4,none⟩=some v4)(c5:w.cell? ⟨b,off+5,none⟩=some v5)(c6:w.cell? ⟨b,off+6,none⟩=some v6)(c7:w.cell? ⟨b,off+7,none⟩=some v7)(f0:w.frozen? ⟨b,off,none⟩=false)(f1:w.frozen? ⟨b,off+1,none⟩=false)(f2:w.frozen? ⟨b,off+2,none⟩=false)(f3:w.frozen? ⟨b,off+3,none⟩=false)(f4:w.frozen? ⟨b,off+4,none⟩=false)(f5:w.frozen? ⟨b,off+5,none⟩=false)(f6:w.frozen? ⟨b,off+6,none⟩=false)(f7:w.frozen? ⟨b,off+7,none⟩=false):Calls prog 139 #[.slice (some ⟨b,off,none⟩) 8 cap,.int .u64 x] w fun e w'=>e=.returned (.tuple #[]) ∧ w'=(((((((w.setCell ⟨b,off,none⟩ (.int .u8 (x%256))).setCell ⟨b,off+1,none⟩ (.int .u8 (x/256%256))).setCell ⟨b,off+2,none⟩ (.int .u8 (x/65536%256))).setCell ⟨b,off+3,none⟩ (.int .u8 (x/16777216%256))).setCell ⟨b,off+4,none⟩ (.int .u8 (x/4294967296%256))).setCell ⟨b,off+5,none⟩ (.int .u8 (x/1099511627776%256))).setCell ⟨b,off+6,none⟩ (.int .u8 (x/281474976710656%256))).setCell ⟨b,off+7,none⟩ (.int .u8 (x/72057594037927936%256)):=by
 go_enter func139,ntmps139;go_wp2
 go_end0
 exact⟨rfl,rfl⟩
structure Only (b:Nat) (w w':World):Prop where
 os:w'.os=w.os
 tape:w'.tape=w.tape
 output:w'.output=w.output
 size:w'.heap.size=w.heap.size
 block:∀k,k≠b→w'.heap[k]?=w.heap[k]?
theorem Only.setCell{b:Nat}{w w':World}(h:Only b w w')(i:Nat)(v:Value):Only b w (w'.setCell ⟨b,i,none⟩ v):=
 ⟨h.os,h.tape,h.output,by rw[←h.size];simp[World.setCell],fun k hk=>by rw[Below.heap_setCell _ _ _ _ hk];exact h.block k hk⟩
theorem Only.refl(b:Nat)(w:World):Only b w w:=⟨rfl,rfl,rfl,rfl,fun _ _=>rfl⟩
theorem Only.cell{b:Nat}{w w':World}(h:Only b w w')(k i:Nat)(hk:k≠b):w'.cell? ⟨k,i,none⟩=w.cell? ⟨k,i,none⟩:=World.cell?_of_block (w:=w) (h.block k hk)
theorem Only.below{b B:Nat}{w w':World}(h:Only b w w')(hb:B≤b):Below B w w':=⟨h.os,h.tape,h.output,by rw[h.size];exact Acg _,fun k hk=>h.block k (by omega)⟩
def Ic(cs:Array Value)(off:Nat)(x:Int):Array Value:=
 (((((((cs.setIfInBounds off (.int .u8 (x%256))).setIfInBounds (off+1) (.int .u8 (x/256%256))).setIfInBounds (off+2) (.int .u8 (x/65536%256))).setIfInBounds
  (off+3) (.int .u8 (x/16777216%256))).setIfInBounds (off+4) (.int .u8 (x/4294967296%256))).setIfInBounds (off+5) (.int .u8 (x/1099511627776%256))).setIfInBounds
  (off+6) (.int .u8 (x/281474976710656%256))).setIfInBounds (off+7) (.int .u8 (x/72057594037927936%256))
theorem Jz(cs:Array Value)(off:Nat)(x:Int):(Ic cs off x).size=cs.size:=by simp[Ic]
theorem Ff(b off cap:Nat)(x:Int)(cs:Array Value)(t:TypeId)(w:World)(hg:w.heap[b]?=some (.cells cs t (0,0)))(ho:off+8≤cs.size):Calls prog 139 #[.slice (some ⟨b,off,none⟩) 8 cap,.int .u64 x] w fun e w'=>e=.returned (.tuple #[])∧w'.heap[b]?=some (.cells (Ic cs off x) t (0,0))∧Only b w w':=by
 have c:∀i,i<8→∃v,w.cell? ⟨b,off+i,none⟩=some v:=fun i hi=>⟨cs[off+i]'(by omega),by rw[cell_of_row w b (off+i) cs t _ hg];exact Acx (by omega)⟩
 have f:∀i,w.frozen? ⟨b,i,none⟩=false:=fun i=>frozen_of_row w b i cs t hg
 obtain⟨v0,c0⟩:=c 0 (by omega);obtain⟨v1,c1⟩:=c 1 (by omega);obtain⟨v2,c2⟩:=c 2 (by omega);obtain⟨v3,c3⟩:=c 3 (by omega);obtain⟨v4,c4⟩:=c 4 (by omega);obtain⟨v5,c5⟩:=c 5 (by omega);obtain⟨v6,c6⟩:=c 6 (by omega);obtain⟨v7,c7⟩:=c 7 (by omega);refine(FO b off cap x v0 v1 v2 v3 v4 v5 v6 v7 w c0 c1 c2 c3 c4 c5 c6 c7 (f _) (f _) (f _) (f _) (f _) (f _) (f _) (f _)).mono ?_;rintro e w' ⟨rfl,rfl⟩;refine⟨rfl,?_,((((((((Only.refl b w).setCell _ _).setCell _ _).setCell _ _).setCell _ _).setCell _ _).setCell _ _).setCell _ _).setCell _ _⟩;unfold Ic;exact heap_setCell_same _ b _ _ t _ (heap_setCell_same _ b _ _ t _ (heap_setCell_same _ b _ _ t _ (heap_setCell_same _ b _ _ t _ (heap_setCell_same _ b _ _ t _ (heap_setCell_same _ b _ _ t _ (heap_setCell_same _ b _ _ t _ (heap_setCell_same _ b _ _ t _ hg)))))))
theorem UX{y0 y1 y2 y3:Int}(_h0:U64 y0)(_h1:U64 y1)(_h2:U64 y2)(_h3:U64 y3):byt (V4 y0 y1 y2 y3) 0=y0%256:=by
 unfold U64 at *;unfold byt V4;omega
theorem UY{y0 y1 y2 y3:Int}(_h0:U64 y0)(_h1:U64 y1)(_h2:U64 y2)(_h3:U64 y3):byt (V4 y0 y1 y2 y3) 1=y0/256%256:=by
 unfold U64 at *;unfold byt V4;omega
theorem UZ{y0 y1 y2 y3:Int}(_h0:U64 y0)(_h1:U64 y1)(_h2:U64 y2)(_h3:U64 y3):byt (V4 y0 y1 y2 y3) 2=y0/65536%256:=by
 unfold U64 at *;unfold byt V4;omega
theorem Va{y0 y1 y2 y3:Int}(_h0:U64 y0)(_h1:U64 y1)(_h2:U64 y2)(_h3:U64 y3):byt (V4 y0 y1 y2 y3) 3=y0/16777216%256:=by
 unfold U64 at *;unfold byt V4;omega
theorem Vb{y0 y1 y2 y3:Int}(_h0:U64 y0)(_h1:U64 y1)(_h2:U64 y2)(_h3:U64 y3):byt (V4 y0 y1 y2 y3) 4=y0/4294967296%256:=by
 unfold U64 at *;unfold byt V4;omega
theorem Vc{y0 y1 y2 y3:Int}(_h0:U64 y0)(_h1:U64 y1)(_h2:U64 y2)(_h3:U64 y3):byt (V4 y0 y1 y2 y3) 5=y0/1099511627776%256:=by
 unfold U64 at *;unfold byt V4;omega
theorem Vd{y0 y1 y2 y3:Int}(_h0:U64 y0)(_h1:U64 y1)(_h2:U64 y2)(_h3:U64 y3):byt (V4 y0 y1 y2 y3) 6=y0/281474976710656%256:=by
 unfold U64 at *;unfold byt V4;omega
theorem Ve{y0 y1 y2 y3:Int}(_h0:U64 y0)(_h1:U64 y1)(_h2:U64 y2)(_h3:U64 y3):byt (V4 y0 y1 y2 y3) 7=y0/72057594037927936%256:=by
 unfold U64 at *;unfold byt V4;omega
theorem Vf{y0 y1 y2 y3:Int}(_h0:U64 y0)(_h1:U64 y1)(_h2:U64 y2)(_h3:U64 y3):byt (V4 y0 y1 y2 y3) 8=y1%256:=by
 unfold U64 at *;unfold byt V4;omega
theorem Vg{y0 y1 y2 y3:Int}(_h0:U64 y0)(_h1:U64 y1)(_h2:U64 y2)(_h3:U64 y3):byt (V4 y0 y1 y2 y3) 9=y1/256%256:=by
 unfold U64 at *;unfold byt V4;omega
theorem S0{y0 y1 y2 y3:Int}(_h0:U64 y0)(_h1:U64 y1)(_h2:U64 y2)(_h3:U64 y3):byt (V4 y0 y1 y2 y3) 10=y1/65536%256:=by
 unfold U64 at *;unfold byt V4;omega
theorem S1{y0 y1 y2 y3:Int}(_h0:U64 y0)(_h1:U64 y1)(_h2:U64 y2)(_h3:U64 y3):byt (V4 y0 y1 y2 y3) 11=y1/16777216%256:=by
 unfold U64 at *;unfold byt V4;omega
theorem S3{y0 y1 y2 y3:Int}(_h0:U64 y0)(_h1:U64 y1)(_h2:U64 y2)(_h3:U64 y3):byt (V4 y0 y1 y2 y3) 12=y1/4294967296%256:=by
 unfold U64 at *;unfold byt V4;omega
theorem S4{y0 y1 y2 y3:Int}(_h0:U64 y0)(_h1:U64 y1)(_h2:U64 y2)(_h3:U64 y3):byt (V4 y0 y1 y2 y3) 13=y1/1099511627776%256:=by
 unfold U64 at *;unfold byt V4;omega
theorem S5{y0 y1 y2 y3:Int}(_h0:U64 y0)(_h1:U64 y1)(_h2:U64 y2)(_h3:U64 y3):byt (V4 y0 y1 y2 y3) 14=y1/281474976710656%256:=by
 unfold U64 at *;unfold byt V4;omega
theorem S6{y0 y1 y2 y3:Int}(_h0:U64 y0)(_h1:U64 y1)(_h2:U64 y2)(_h3:U64 y3):byt (V4 y0 y1 y2 y3) 15=y1/72057594037927936%256:=by
 unfold U64 at *;unfold byt V4;omega
theorem S7{y0 y1 y2 y3:Int}(_h0:U64 y0)(_h1:U64 y1)(_h2:U64 y2)(_h3:U64 y3):byt (V4 y0 y1 y2 y3) 16=y2%256:=by
 unfold U64 at *;unfold byt V4;omega
theorem S8{y0 y1 y2 y3:Int}(_h0:U64 y0)(_h1:U64 y1)(_h2:U64 y2)(_h3:U64 y3):byt (V4 y0 y1 y2 y3) 17=y2/256%256:=by
 unfold U64 at *;unfold byt V4;omega
theorem S9{y0 y1 y2 y3:Int}(_h0:U64 y0)(_h1:U64 y1)(_h2:U64 y2)(_h3:U64 y3):byt (V4 y0 y1 y2 y3) 18=y2/65536%256:=by
 unfold U64 at *;unfold byt V4;omega
theorem SA{y0 y1 y2 y3:Int}(_h0:U64 y0)(_h1:U64 y1)(_h2:U64 y2)(_h3:U64 y3):byt (V4 y0 y1 y2 y3) 19=y2/16777216%256:=by
 unfold U64 at *;unfold byt V4;omega
theorem SB{y0 y1 y2 y3:Int}(_h0:U64 y0)(_h1:U64 y1)(_h2:U64 y2)(_h3:U64 y3):byt (V4 y0 y1 y2 y3) 20=y2/4294967296%256:=by
 unfold U64 at *;unfold byt V4;omega
theorem SD{y0 y1 y2 y3:Int}(_h0:U64 y0)(_h1:U64 y1)(_h2:U64 y2)(_h3:U64 y3):byt (V4 y0 y1 y2 y3) 21=y2/1099511627776%256:=by
 unfold U64 at *;unfold byt V4;omega
theorem SE{y0 y1 y2 y3:Int}(_h0:U64 y0)(_h1:U64 y1)(_h2:U64 y2)(_h3:U64 y3):byt (V4 y0 y1 y2 y3) 22=y2/281474976710656%256:=by
 unfold U64 at *;unfold byt V4;omega
theorem SF{y0 y1 y2 y3:Int}(_h0:U64 y0)(_h1:U64 y1)(_h2:U64 y2)(_h3:U64 y3):byt (V4 y0 y1 y2 y3) 23=y2/72057594037927936%256:=by
 unfold U64 at *;unfold byt V4;omega
theorem SG{y0 y1 y2 y3:Int}(_h0:U64 y0)(_h1:U64 y1)(_h2:U64 y2)(_h3:U64 y3):byt (V4 y0 y1 y2 y3) 24=y3%256:=by
 unfold U64 at *;unfold byt V4;omega
theorem SH{y0 y1 y2 y3:Int}(_h0:U64 y0)(_h1:U64 y1)(_h2:U64 y2)(_h3:U64 y3):byt (V4 y0 y1 y2 y3) 25=y3/256%256:=by
 unfold U64 at *;unfold byt V4;omega
theorem SI{y0 y1 y2 y3:Int}(_h0:U64 y0)(_h1:U64 y1)(_h2:U64 y2)(_h3:U64 y3):byt (V4 y0 y1 y2 y3) 26=y3/65536%256:=by
 unfold U64 at *;unfold byt V4;omega
theorem SJ{y0 y1 y2 y3:Int}(_h0:U64 y0)(_h1:U64 y1)(_h2:U64 y2)(_h3:U64 y3):byt (V4 y0 y1 y2 y3) 27=y3/16777216%256:=by
 unfold U64 at *;unfold byt V4;omega
theorem SK{y0 y1 y2 y3:Int}(_h0:U64 y0)(_h1:U64 y1)(_h2:U64 y2)(_h3:U64 y3):byt (V4 y0 y1 y2 y3) 28=y3/4294967296%256:=by
 unfold U64 at *;unfold byt V4;omega
theorem SL{y0 y1 y2 y3:Int}(_h0:U64 y0)(_h1:U64 y1)(_h2:U64 y2)(_h3:U64 y3):byt (V4 y0 y1 y2 y3) 29=y3/1099511627776%256:=by
 unfold U64 at *;unfold byt V4;omega
theorem SM{y0 y1 y2 y3:Int}(_h0:U64 y0)(_h1:U64 y1)(_h2:U64 y2)(_h3:U64 y3):byt (V4 y0 y1 y2 y3) 30=y3/281474976710656%256:=by
 unfold U64 at *;unfold byt V4;omega
theorem SN{y0 y1 y2 y3:Int}(_h0:U64 y0)(_h1:U64 y1)(_h2:U64 y2)(_h3:U64 y3):byt (V4 y0 y1 y2 y3) 31=y3/72057594037927936%256:=by
 unfold U64 at *;unfold byt V4;omega
theorem Yc:Aco 32=[0,1,2,3,4,5,6,7,8,9,10,11,12,13,14,15,16,17,18,19,20,21,22,23,24,25,26,27,28,29,30,31]:=rfl
theorem Vh{y0 y1 y2 y3:Int}(h0:U64 y0)(h1:U64 y1)(h2:U64 y2)(h3:U64 y3):Ic (Ic (Ic (Ic (BA 0) 0 y0) 8 y1) 16 y2) 24 y3=BA (V4 y0 y1 y2 y3):=by
 simp only[Ic,BA,Yc,Acu,Acq,Aci,Acj,Ach,Nat.reduceAdd];rw[UX h0 h1 h2 h3];rw[UY h0 h1 h2 h3];rw[UZ h0 h1 h2 h3];rw[Va h0 h1 h2 h3];rw[Vb h0 h1 h2 h3];rw[Vc h0 h1 h2 h3];rw[Vd h0 h1 h2 h3];rw[Ve h0 h1 h2 h3];rw[Vf h0 h1 h2 h3];rw[Vg h0 h1 h2 h3];rw[S0 h0 h1 h2 h3];rw[S1 h0 h1 h2 h3];rw[S3 h0 h1 h2 h3];rw[S4 h0 h1 h2 h3];rw[S5 h0 h1 h2 h3];rw[S6 h0 h1 h2 h3];rw[S7 h0 h1 h2 h3];rw[S8 h0 h1 h2 h3];rw[S9 h0 h1 h2 h3];rw[SA h0 h1 h2 h3];rw[SB h0 h1 h2 h3];rw[SD h0 h1 h2 h3];rw[SE h0 h1 h2 h3];rw[SF h0 h1 h2 h3];rw[SG h0 h1 h2 h3];rw[SH h0 h1 h2 h3];rw[SI h0 h1 h2 h3];rw[SJ h0 h1 h2 h3];rw[SK h0 h1 h2 h3];rw[SL h0 h1 h2 h3];rw[SM h0 h1 h2 h3];rw[SN h0 h1 h2 h3]
theorem Aj{B:Nat}{w w':World}(h:Below B w w'){k:Nat}{o:Obj}(hk:w.heap[k]?=some o)(hB:k<B):w'.heap[k]?=some o:=(h.block k hB).trans hk
theorem Aa{w:World}{k:Nat}{o:Obj}(h:w.heap[k]?=some o):k<w.heap.size:=(Array.getElem?_eq_some_iff.1 h).1
theorem Cd(w:World)(g:Nat)(cs:Array Value):Only g w (w.setRow g cs):=
 ⟨rfl,rfl,rfl,by simp,fun k hk=>setRow_other w g k cs hk⟩
theorem Ia{P:Program}{ops:Array Oper}{rest:List Oper}{o:Oper}{a:Act}{w:World}{Q:Exit→Act→World→Prop}(hgd:o.guard=none)(ty:TypeId)(x y:Operand)(ho:o.op=.store ty x y)(g:Nat)(cells:Array Value)(hx:a.eval x=.pointer (some ⟨g,0,none⟩))(hy:a.eval y=.agg cells)(t:TypeId)(old:Array Value)(hg:w.heap[g]?=some (.cells old t (0,0)))(hi:(P.info? ty).map (·.size)=some cells.size)(hold:old.size=cells.size)(h1:cells.all (·.oneCell')=true)(h:∀w2,w2.heap[g]?=some (.cells cells t (0,0))→Only g w w2→wpList P ops Q rest (a.put o.dst undef) w2):wpList P ops Q (o::rest) a w:=
 wpList_store_row hgd ty x y ho g cells hx hy t old hg hi hold h1 (h _ (setRow_heap w g old cells t (0,0) hg) (Cd w g cells))
theorem AJ{P:Program}{c:Code}{Q:Exit→Act→World→Prop}{a:Act}{w:World}(I:World→Prop)(hI:I w)(h:∀w',I w'→c.wp P Q a w'):c.wp P Q a w:=h w hI
theorem Vi:IntKind.i64.wrap 0=0:=by decide +kernel
theorem Aaa:IntKind.i64.wrap 8=8:=by decide +kernel
theorem Yd:IntKind.i64.wrap 16=16:=by decide +kernel
theorem Ye:IntKind.i64.wrap 24=24:=by decide +kernel
theorem Yf:IntKind.i64.wrap 32=32:=by decide +kernel
theorem DH{ops:Array Oper}{rest:List Oper}{o:Oper}{a:Act}{w:World}{Q:Exit→Act→World→Prop}(hgd:o.guard=none)(x y:Operand)(ho:o.op=.store 142 x y)(g:Nat)(y0 y1 y2 y3:Int)(hx:a.eval x=.pointer (some ⟨g,0,none⟩))(hy:a.eval y=.agg #[.int .u64 y0,.int .u64 y1,.int .u64 y2,.int .u64 y3])(v0 v1 v2 v3:Value)(hg:w.heap[g]?=some (.cells #[v0,v1,v2,v3] 142 (0,0)))(h:∀w2,w2.heap[g]?=some (.cells #[.int .u64 y0,.int .u64 y1,.int .u64 y2,.int .u64 y3] 142 (0,0))→Only g w w2→wpList prog ops Q rest (a.put o.dst undef) w2):wpList prog ops Q (o::rest) a w:=
 Ia hgd 142 x y ho g _ hx hy 142 _ hg (by kernel_rfl) rfl (by simp[Value.oneCell']) h
theorem N4(n:Int):(BA n).all (·.oneCell')=true:=by simp[BA,Value.oneCell']
theorem Bo:(Tryz.prog.info? 22).map (·.size)=some 32:=by kernel_rfl
theorem BF{ops:Array Oper}{rest:List Oper}{o:Oper}{a:Act}{w:World}{Q:Exit→Act→World→Prop}(hgd:o.guard=none)(x y:Operand)(ho:o.op=.store 22 x y)(g:Nat)(n:Int)(hx:a.eval x=.pointer (some ⟨g,0,none⟩))(hy:a.eval y=.agg (BA n))(old:Array Value)(hg:w.heap[g]?=some (.cells old 22 (0,0)))(hold:old.size=32)(h:∀w2,w2.heap[g]?=some (.cells (BA n) 22 (0,0))→Only g w w2→wpList prog ops Q rest (a.put o.dst undef) w2):wpList prog ops Q (o::rest) a w:=
 Ia hgd 22 x y ho g _ hx hy 22 _ hg (by rw[Ah];exact Bo) (by rw[Ah];exact hold) (N4 n) h
theorem A7{ops:Array Oper}{rest:List Oper}{o:Oper}{a:Act}{w:World}{Q:Exit→Act→World→Prop}(hgd:o.guard=none)(x:Operand)(ho:o.op=.load 22 x)(g:Nat)(cs:Array Value)(hx:a.eval x=.pointer (some ⟨g,0,none⟩))(hg:w.heap[g]?=some (.cells cs 22 (0,0)))(hs:cs.size=32)(h:wpList prog ops Q rest (a.put o.dst (.agg cs)) w):wpList prog ops Q (o::rest) a w:=
 wpList_load_row hgd 22 x ho g hx 22 cs (0,0) _ hg underlying22 rfl (by rw[hs];exact Bo) h
theorem D5(x0 x1 x2 x3:Int)(w:World)(h0:U64 x0)(h1:U64 x1)(h2:U64 x2)(h3:U64 x3):Calls prog 105 #[.agg #[.int .u64 x0,.int .u64 x1,.int .u64 x2,.int .u64 x3]] w fun e w' => e=.returned (.agg (BA (V4 x0 x1 x2 x3%P255)))∧Below w.heap.size w w':=by
 have e0:=Vi;have e8:=Aaa;have e16:=Yd;have e24:=Ye;have e32:=Yf;go_enter func105,ntmps105;go_wp2_with fail;refine(M8 _ _ _ _ _ h0 h1 h2 h3).mono ?_;rintro e w1 ⟨y0,y1,y2,y3,hy0,hy1,hy2,hy3,e1,rfl,hb1⟩;have E1:=Hid.mk e1;clear e1;have g1:=Aj hb1 (heap_alloc2_old w _ _) (by simp<;>omega);have g2:=Aj hb1 (heap_alloc2_new w _ _) (by simp<;>omega);have hB1:Hid (Below w.heap.size w w1):=Below.trans (((Below.refl _ _).alloc (Acg _) _).alloc (by simp) _) (hb1.mono (by simp<;>omega));clear hb1
 go_wp2_with (refine DH rfl _ _ rfl _ _ _ _ _ rfl rfl _ _ _ _ g1 ?_;intro w2 g1 o2;have g2:=(o2.block _ (by omega)).trans g2;have hB2:Hid (Below w.heap.size w w2):=Below.trans hB1.out (o2.below (Acg _));clear o2)
 have hz:w.heap.size+1<w2.heap.size:=Aa g2
 refine AJ (fun w3=>w3.heap[w.heap.size]?=some (.cells #[.int .u64 y0,.int .u64 y1,.int .u64 y2,.int .u64 y3] 142 (0,0)) ∧
  (∃z:Array Value,w3.heap[w.heap.size+1]?=some (.cells z 22 (0,0))∧z.size=32)∧w3.heap[w2.heap.size]?=some (.cells (BA 0) 22 (0,0))∧Below w.heap.size w w3)
  ⟨(Below.heap_alloc _ _ _ (by omega)).trans g1,⟨_,(Below.heap_alloc _ _ _ (by omega)).trans g2,rfl⟩,heap_alloc_new _ _,hB2.out.alloc (by omega) _⟩ ?_
 generalize w2.heap.size=b3 at *;clear g1 g2 hB2;rintro w3 ⟨g1,⟨z,g2,sz⟩,g3,hB3⟩;have cN:∀i,w3.cell? ⟨w.heap.size,i,none⟩=_:=fun i=>cell_of_row _ _ i _ _ _ g1
 refine wp_loop_rounds 5 ?_;rw[rounds_succ];go_wp2
 go_region_with (go_at_call 139;refine(Ff _ _ _ _ (BA 0) 22 _ ?_ ?_).mono ?_;exact g3;(simp only[Ah];omega);rintro e v0 ⟨rfl,p0,o0⟩)
 have g3:=p0;have g2:=(o0.block _ (by omega)).trans g2;have cN:=fun i=>(o0.cell w.heap.size i (by omega)).trans (cN i)
 have hB3:=Below.trans (Below.drew hB3) (Only.below (b:=b3) (B:=w.heap.size) o0 (by omega));clear o0 p0;go_wp2;rw[rounds_succ];go_wp2
 go_region_with (go_at_call 139;refine(Ff _ _ _ _ (Ic (BA 0) 0 y0) 22 _ ?_ ?_).mono ?_;exact g3;(simp only[Jz,Ah];omega);rintro e v1 ⟨rfl,p1,o1⟩)
 have g3:=p1;have g2:=(o1.block _ (by omega)).trans g2;have cN:=fun i=>(o1.cell w.heap.size i (by omega)).trans (cN i)
 have hB3:=Below.trans (Below.drew hB3) (Only.below (b:=b3) (B:=w.heap.size) o1 (by omega));clear o1 p1;go_wp2;rw[rounds_succ];go_wp2
 go_region_with (go_at_call 139;refine(Ff _ _ _ _ (Ic (Ic (BA 0) 0 y0) 8 y1) 22 _ ?_ ?_).mono ?_;exact g3;(simp only[Jz,Ah];omega);rintro e v2 ⟨rfl,p2,o2⟩)
 have g3:=p2;have g2:=(o2.block _ (by omega)).trans g2;have cN:=fun i=>(o2.cell w.heap.size i (by omega)).trans (cN i)
 have hB3:=Below.trans (Below.drew hB3) (Only.below (b:=b3) (B:=w.heap.size) o2 (by omega));clear o2 p2;go_wp2;rw[rounds_succ];go_wp2
 go_region_with (go_at_call 139;refine(Ff _ _ _ _ (Ic (Ic (Ic (BA 0) 0 y0) 8 y1) 16 y2) 22 _ ?_ ?_).mono ?_;exact g3;(simp only[Jz,Ah];omega);rintro e v3 ⟨rfl,p3,o3⟩)
 have g3:=p3;have g2:=(o3.block _ (by omega)).trans g2;have cN:=fun i=>(o3.cell w.heap.size i (by omega)).trans (cN i)
 have hB3:=Below.trans (Below.drew hB3) (Only.below (b:=b3) (B:=w.heap.size) o3 (by omega));clear o3 p3;go_wp2;rw[Vh hy0 hy1 hy2 hy3] at g3;rw[rounds_succ]
 go_wp2_with (first|(refine A7 rfl _ rfl _ _ rfl g3 (Ah _) ?_)|(refine BF rfl _ _ rfl _ _ rfl rfl _ g2 sz ?_;intro w5 g5 o5))
 refine bodyPost_ret (v:=.agg (BA (V4 x0 x1 x2 x3%P255))) ?_ rfl ⟨rfl,Below.trans hB3 (Only.below (b:=w.heap.size+1) (B:=w.heap.size) o5 (by omega))⟩;rw[←E1.out];exact results_cell_row rfl _ _ _ _ _ _ _ rfl g5 underlying22 rfl (by rw[Ah];exact Bo)
theorem Dj{x y c:Int}(hx:U64 x)(hy:U64 y)(hc:Bit c):∃lo hi,Sum3 x y c lo hi∧∀w,(callFunc 196 #[.int .u64 x,.int .u64 y,.int .u64 c]).run prog w = .ok (.value (.tuple #[.int .u64 lo,.int .u64 hi])) w:=by
 obtain⟨lo,hi,hs,_⟩:=Ey x y c hx hy hc default;refine⟨lo,hi,hs,fun w=>?_⟩;obtain⟨lo',hi',hs',e⟩:=Ey x y c hx hy hc w;have e1:lo'=lo∧hi'=hi:=by unfold Sum3 U64 Bit at hs hs';omega
 rw[e,e1.1,e1.2]
theorem AK(w:World)(A B C:Obj):(((w.alloc A).alloc B).alloc C).heap[w.heap.size+1+1]?=some C:=by
 have:=heap_alloc_new ((w.alloc A).alloc B) C
 simpa using this
theorem SO{c:Int}(h:Bit c):0≤c∧c≤1:=by unfold Bit at h;omega
theorem Vj{x0 x1 x2 x3 y0 y1 y2 y3 z0 z1 z2 z3 c0 c1 c2 c3:Int}(s0:Sum3 x0 y0 0 z0 c0)(s1:Sum3 x1 y1 c0 z1 c1)(s2:Sum3 x2 y2 c1 z2 c2)(s3:Sum3 x3 y3 c2 z3 c3):V4 z0 z1 z2 z3+Bm*c3=V4 x0 x1 x2 x3+V4 y0 y1 y2 y3:=by
 unfold Sum3 at s0 s1 s2 s3;unfold V4 Bm;omega
theorem Ow(x0 x1 x2 x3 y0 y1 y2 y3:Int)(w:World)(h0:U64 x0)(h1:U64 x1)(h2:U64 x2)(h3:U64 x3)(k0:U64 y0)(k1:U64 y1)(k2:U64 y2)(k3:U64 y3):Calls prog 194 #[.agg #[.int .u64 x0,.int .u64 x1,.int .u64 x2,.int .u64 x3],.agg #[.int .u64 y0,.int .u64 y1,.int .u64 y2,.int .u64 y3]] w fun e w' => ∃z0 z1 z2 z3,U64 z0∧U64 z1∧U64 z2∧U64 z3∧(∃k:Int,V4 z0 z1 z2 z3=V4 x0 x1 x2 x3+V4 y0 y1 y2 y3+k*P255) ∧ e=.returned (.agg #[.int .u64 z0,.int .u64 z1,.int .u64 z2,.int .u64 z3])∧Below w.heap.size w w':=by
 obtain⟨z0,c0,s0,r0⟩:=Dj h0 k0 bit0;obtain⟨z1,c1,s1,r1⟩:=Dj h1 k1 s0.hi;obtain⟨z2,c2,s2,r2⟩:=Dj h2 k2 s1.hi;obtain⟨z3,c3,s3,r3⟩:=Dj h3 k3 s2.hi;go_enter func194,ntmps194;go_wp2;refine wp_loop_rounds 5 ?_;rw[rounds_succ];go_wp2
 go_region
 go_wp2;rw[rounds_succ];go_wp2
 go_region
 go_wp2;rw[rounds_succ];go_wp2
 go_region
 go_wp2;rw[rounds_succ];go_wp2
 go_region
 go_wp2;rw[rounds_succ];clear r0 r1 r2 r3;have hc:=SO s3.hi;have hc0:=hc.1;have hc1:=hc.2;go_wp2_with fail;refine(Ov _ _ _ _ _ _ s0.lo s1.lo s2.lo s3.lo (by omega) (by omega)).mono ?_;rintro e w1 ⟨q0,q1,q2,q3,hq0,hq1,hq2,hq3,⟨k,ek⟩,rfl,hb1⟩;have g4:=Aj hb1 (AK w _ _ _) (by simp<;>omega)
 have hB1:Hid (Below w.heap.size w w1):=by
  refine Below.trans ?_ (hb1.mono (by simp<;>omega))
  repeat first | exact Below.refl _ _ | refine Below.alloc ?_ (by simp<;>omega) _ | refine Below.drew ?_ | refine Below.drewN' ?_ _
 clear hb1;have EK:=Hid.mk ek;clear ek
 go_wp2_with (refine DH rfl _ _ rfl _ _ _ _ _ rfl rfl _ _ _ _ g4 ?_;intro w2 g5 o5)
 refine bodyPost_ret (v:=.agg #[.int .u64 q0,.int .u64 q1,.int .u64 q2,.int .u64 q3]) (results_cell_row rfl _ _ _ _ _ _ _ rfl g5 underlying142 rfl (by kernel_rfl)) rfl
  ⟨q0,q1,q2,q3,hq0,hq1,hq2,hq3,⟨k,?_⟩,rfl,Below.trans hB1.out (Only.below (b:=w.heap.size+1+1) (B:=w.heap.size) o5 (by omega))⟩
 rw[EK.out,Vj s0 s1 s2 s3]
theorem Vk(x y:Int)(hx:U64 x)(hy:U64 y):IntKind.u64.wrap (IntKind.u64.wrap (IntKind.u64.wrap (x/4294967296*(y/4294967296)) + IntKind.u64.wrap (IntKind.u64.wrap (x/4294967296*bits BinOp.and IntKind.u64 y 4294967295) + IntKind.u64.wrap (bits BinOp.and IntKind.u64 x 4294967295*bits BinOp.and IntKind.u64 y 4294967295)/4294967296) / 4294967296) + IntKind.u64.wrap (bits BinOp.and IntKind.u64 (IntKind.u64.wrap (IntKind.u64.wrap (x/4294967296*bits BinOp.and IntKind.u64 y 4294967295) + IntKind.u64.wrap (bits BinOp.and IntKind.u64 x 4294967295*bits BinOp.and IntKind.u64 y 4294967295)/4294967296)) 4294967295 + IntKind.u64.wrap (bits BinOp.and IntKind.u64 x 4294967295*(y/4294967296))) / 4294967296)=x*y/18446744073709551616:=by
 rw[and_low32 x hx.1 hx.2,and_low32 y hy.1 hy.2];simp only[IntKind.wrap_u64];rw[and_low32 (_%18446744073709551616) (by omega) (by omega)];exact mul64_arith x y hx.1 hx.2 hy.1 hy.2
theorem Yg{k:IntKind}{a b c d:Int}(h:a=b)(h':c=d):Ending.returned (.tuple #[.int k a,.int k c])=.returned (.tuple #[.int k b,.int k d]):=by rw[h,h']
theorem SP(x y:Int)(w:World)(hx:U64 x)(hy:U64 y):Calls prog 195 #[.int .u64 x,.int .u64 y] w fun e w'=>e=.returned (.tuple #[.int .u64 (x*y/18446744073709551616),.int .u64 (x*y%18446744073709551616)])∧w'=w:=by
 have H:=Hid.mk (Vk x y hx hy);go_enter func195,ntmps195;go_wp2
 go_ret2
 exact⟨Yg H.out (IntKind.wrap_u64 _),rfl⟩
def Dif3(x y b lo hi:Int):Prop:=U64 lo∧Bit hi∧lo=x-y-b+18446744073709551616*hi
theorem Dif3.lo{x y c lo hi:Int}(h:Dif3 x y c lo hi):U64 lo:=h.1
theorem Dif3.hi{x y c lo hi:Int}(h:Dif3 x y c lo hi):Bit hi:=h.2.1
theorem GY{x y b:Int}(hx:U64 x)(hy:U64 y)(hb:Bit b):∃lo hi,Dif3 x y b lo hi∧∀w,(callFunc 140 #[.int .u64 x,.int .u64 y,.int .u64 b]).run prog w = .ok (.value (.tuple #[.int .u64 lo,.int .u64 hi])) w:=by
 unfold U64 at hx hy;unfold Bit at hb;obtain⟨X,rfl⟩:=Ac3 hx.1;obtain⟨Y,rfl⟩:=Ac3 hy.1;obtain⟨B,rfl⟩:=Ac3 (show 0≤b by omega);refine⟨(((X+18446744073709551616-Y-B)%18446744073709551616:Nat):Int),((if X<Y+B then 1 else 0:Nat):Int),?_,fun w=>?_⟩
 ·unfold Dif3 U64 Bit
  split<;>omega
 ·rw[run_callFunc_extern func140 (by kernel_rfl) (by kernel_rfl) (by kernel_rfl) (e:=sub64Entry) (by kernel_rfl),run_sub64 X Y B (by omega)]
  rfl
def PrimeAt(w:World):Prop:=w.cell? ⟨0,0,none⟩=some (.int .u64 18446744073709551597)∧w.cell? ⟨0,1,none⟩=some (.int .u64 18446744073709551615) ∧
 w.cell? ⟨0,2,none⟩=some (.int .u64 18446744073709551615)∧w.cell? ⟨0,3,none⟩=some (.int .u64 9223372036854775807)
theorem CN{B:Nat}{w w':World}(h:PrimeAt w)(hb:Below B w w')(hB:0<B):PrimeAt w':=
 ⟨(hb.cell hB).trans h.1,(hb.cell hB).trans h.2.1,(hb.cell hB).trans h.2.2.1,(hb.cell hB).trans h.2.2.2⟩
theorem Cr{w:World}(h:PrimeAt w):0<w.heap.size:=World.block_lt_of_cell? w _ h.1
theorem Yh{x0 x1 x2 x3 z0 z1 z2 z3 b0 b1 b2 b3:Int}(h0:U64 x0)(h1:U64 x1)(h2:U64 x2)(h3:U64 x3)(hx:V4 x0 x1 x2 x3≤P255)(s0:Dif3 18446744073709551597 x0 0 z0 b0)(s1:Dif3 18446744073709551615 x1 b0 z1 b1)(s2:Dif3 18446744073709551615 x2 b1 z2 b2)(s3:Dif3 9223372036854775807 x3 b2 z3 b3):V4 z0 z1 z2 z3=P255-V4 x0 x1 x2 x3:=by
 have hz:=DE s0.lo s1.lo s2.lo s3.lo;have hb:=s3.hi;unfold Dif3 at s0 s1 s2 s3;have e:V4 z0 z1 z2 z3=P255-V4 x0 x1 x2 x3+Bm*b3:=by unfold V4 P255 Bm;omega
 have hv:=DE h0 h1 h2 h3;unfold Bit at hb;generalize V4 z0 z1 z2 z3=Z at *;generalize V4 x0 x1 x2 x3=X at *;unfold P255 Bm at *
 rcases hb with rfl | rfl<;>omega
theorem IC(x0 x1 x2 x3:Int)(w:World)(hP:PrimeAt w)(h0:U64 x0)(h1:U64 x1)(h2:U64 x2)(h3:U64 x3)(hx:V4 x0 x1 x2 x3≤P255):Calls prog 106 #[.agg #[.int .u64 x0,.int .u64 x1,.int .u64 x2,.int .u64 x3]] w fun e w' => ∃z0 z1 z2 z3,U64 z0∧U64 z1∧U64 z2∧U64 z3∧V4 z0 z1 z2 z3=P255-V4 x0 x1 x2 x3 ∧ e=.returned (.agg #[.int .u64 z0,.int .u64 z1,.int .u64 z2,.int .u64 z3])∧Below w.heap.size w w':=by
 obtain⟨z0,c0,s0,r0⟩:=GY (x:=18446744073709551597) (by unfold U64;omega) h0 bit0;obtain⟨z1,c1,s1,r1⟩:=GY (x:=18446744073709551615) (by unfold U64;omega) h1 s0.hi;obtain⟨z2,c2,s2,r2⟩:=GY (x:=18446744073709551615) (by unfold U64;omega) h2 s1.hi;obtain⟨z3,c3,s3,r3⟩:=GY (x:=9223372036854775807) (by unfold U64;omega) h3 s2.hi;have HX:=Hid.mk hx;clear hx;have hw0:0<w.heap.size:=Cr hP;obtain⟨q0,q1,q2,q3⟩:=hP;go_enter func106,ntmps106;go_wp2;refine wp_loop_rounds 5 ?_;rw[rounds_succ];go_wp2
 go_region
 go_wp2;rw[rounds_succ];go_wp2
 go_region
 go_wp2;rw[rounds_succ];go_wp2
 go_region
 go_wp2;rw[rounds_succ];go_wp2
 go_region
 go_wp2;rw[rounds_succ];go_wp2;refine bodyPost_ret (v:=.agg #[.int .u64 z0,.int .u64 z1,.int .u64 z2,.int .u64 z3]) (by simp[results,results106,go_sem]) rfl
  ⟨z0,z1,z2,z3,s0.lo,s1.lo,s2.lo,s3.lo,Yh h0 h1 h2 h3 HX.out s0 s1 s2 s3,rfl,?_⟩
 repeat first | exact Below.refl _ _ | refine Below.alloc ?_ (by simp<;>omega) _ | refine Below.drew ?_ | refine Below.drewN' ?_ _
end Go.Proofs.YthghcjepdhkfdaaGreatDoor.Fld
namespace Go.Proofs.YthghcjepdhkfdaaGreatDoor
open Go.ChangeShapes Go.WideShapes Go.ChangeAt Go.WideMaps Go.WideElems Go.RowKit Go.Proofs
open Tryz
theorem Ry:Tryz.prog.cellsOf 22=32:=by kernel_rfl
theorem M9:Tryz.prog.readableRec 22=true:=by kernel_rfl
theorem MA:22<Tryz.prog.types.size:=of_decide_eq_true (by kernel_rfl)
theorem own:ownKnob Tryz.prog.godebug=none:=by kernel_rfl
def laidP:List (String×DataW Unit):=Rows.noiseBeginsRow.laid
def Yi:String:=(laidP.map (·.1)).getD 0 "none"
def Yj:String:=(laidP.map (·.1)).getD 1 "none"
def Yk:String:=(laidP.map (·.1)).getD 2 "none"
theorem gPri:Tryz.prog.globalNamed Yi=some 0:=by kernel_rfl
theorem tPri:(Tryz.prog.globals[0]?).map (·.type)=some 142:=by kernel_rfl
theorem Vl:Tryz.prog.cellsOf 98=1:=by kernel_rfl
theorem gBeg:Tryz.prog.globalNamed Yj=some 1:=by kernel_rfl
theorem gOrd:Tryz.prog.globalNamed Yk=some 2:=by kernel_rfl
theorem tBeg:(Tryz.prog.globals[1]?).map (·.type)=some 193:=by kernel_rfl
theorem tOrd:(Tryz.prog.globals[2]?).map (·.type)=some 255:=by kernel_rfl
theorem Vm:Tryz.prog.cellsOf 23=1:=by kernel_rfl
theorem Yl:Tryz.prog.cellsOf 54=16:=by kernel_rfl
theorem Vn(i:Nat)(hi:i<8):([.lit (.int .u32 1779033703),.lit (.int .u32 3144134277),.lit (.int .u32 1013904242),.lit (.int .u32 2773480762),.lit (.int .u32 1359893119),.lit (.int .u32 2600822924),.lit (.int .u32 528734635),.lit (.int .u32 1541459225)]:List (DataW Unit))[i]?=some (.lit (.int .u32 (bgn i))):=by
 match i,hi with
 | 0,_=>rfl
 | 1,_=>rfl
 | 2,_=>rfl
 | 3,_=>rfl
 | 4,_=>rfl
 | 5,_=>rfl
 | 6,_=>rfl
 | 7,_=>rfl
def Ym(s:Nat):List (DataW Unit):=(Aco 16).map fun i=>.lit (.int .u8 (ordI s i))
theorem Vo:(Rows.laid_adit_blake_orders:DataW Unit)=.agg ((Aco 10).map fun s=>.agg (Ym s)):=by kernel_rfl
theorem Vp(os:Os)(args:Array Value):laidMet prog laidP ((World.doorLaid prog 400 os).forCall (fun _ _=>0) ⟨#[],args,[]⟩).memory:=
 laidMet_of_run' 8 (by kernel_rfl) (by kernel_rfl)
theorem Vq{W:World}(h:laidMetH prog laidP W):Tabs W∧Fld.PrimeAt W:=by
 rw[MakeChecks.laidMetH_plain _ _ _ (by kernel_rfl)] at h;obtain⟨ps,⟨g2,t2,cs2,f2,p2,q2,hg2,ht2,hv2,hd2,hrest0,_⟩,_⟩:=h;obtain⟨g0,t0,cs0,f0,p0,q0,hg0,ht0,hv0,hd0,hrest,_⟩:=hrest0;obtain⟨g1,t1,cs1,f1,p1,q1,hg1,ht1,hv1,hd1,_,_⟩:=hrest;obtain rfl:=Option.some.inj (gPri.symm.trans hg2);obtain rfl:=Option.some.inj (tPri.symm.trans ht2);obtain rfl:=Option.some.inj (gBeg.symm.trans hg0);obtain rfl:=Option.some.inj (tBeg.symm.trans ht0);obtain rfl:=Option.some.inj (gOrd.symm.trans hg1);obtain rfl:=Option.some.inj (tOrd.symm.trans ht1);refine⟨⟨fun i hi=>?_,fun s hs i hi=>?_⟩,?_⟩
 ·obtain⟨xs,m1,rfl,hx1,hlen,hn8,hel⟩:=DataW.trod_array underlying193 hd0
  simp only[Prod.mk.injEq,Rows.laid_adit_blake_beginnings,DataW.agg.injEq] at hx1;have hk:=Vn i hi;rw[hx1.1] at hk;have h0:=hel i hi;rw[Vm,Nat.mul_one] at h0;have hxi:i<xs.length:=by omega
  rw[Ac1 hxi] at h0;obtain⟨k',e1,e2,_⟩:=DataW.trod_int underlying23 h0
  have hk2:k'=bgn i:=by
   rw[AcL,Ac1 hxi,e2] at hk
   simpa using hk
  subst hk2;rw[World.var?_cell hg0 hv0 i]
  have:cs0.toList[i]?=some (.int .u32 (bgn i)):=by
   have h2:=congrArg (fun l=>l[0]?) e1
   simpa [AcM,List.getElem?_drop] using h2
  simpa using this
 ·obtain⟨xs,m1,rfl,hx1,hlen,hn10,hel⟩:=DataW.trod_array underlying255 hd1
  rw[Vo] at hx1;simp only[Prod.mk.injEq,DataW.agg.injEq] at hx1;have hxs:s<xs.length:=by omega
  have hr:(xs[s]).1=.agg (Ym s):=by
   have:=congrArg (fun l=>l[s]?) hx1.1;simp[hs,hxs] at this;exact this.symm
  have h0:=hel s hs;rw[Yl,Ac1 hxs] at h0;obtain⟨ys,m2,rfl,hy,hlen2,hn16,hel2⟩:=DataW.trod_array underlying54 h0
  have hyd:ys.map (·.1)=Ym s:=by
   have h3:=congrArg Prod.fst hy;rw[hr] at h3
   simpa using h3.symm
  have hyi:i<ys.length:=by omega
  have h1:=hel2 i hi;rw[Jr,Nat.mul_one,Ac1 hyi] at h1;obtain⟨k',e1,e2,_⟩:=DataW.trod_int underlying5 h1
  have hk2:k'=ordI s i:=by
   have h4:=congrArg (fun l=>l[i]?) hyd;simp only[AcL,Ac1 hyi,e2,Option.map_some,Ym] at h4
   simpa [hi] using h4
  subst hk2;rw[World.var?_cell hg1 hv1 (s*16+i)]
  have:cs1.toList[s*16+i]?=some (.int .u8 (ordI s i)):=by
   have h2:=congrArg (fun l=>l[0]?) e1
   simpa [AcM,List.getElem?_drop,hi] using h2
  simpa using this
 ·obtain⟨xs,m1,rfl,hx1,hlen,hn4,hel⟩:=DataW.trod_array underlying142 hd2
  simp only[Prod.mk.injEq,Rows.laid_adit_field_prime,DataW.agg.injEq] at hx1
  have key:∀i,i<4→∀k:Int,(xs.map (·.1))[i]?=some (.lit (.int .u64 k))→W.cell? ⟨0,i,none⟩=some (.int .u64 k):=fun i hi k hk=>by
   have h0:=hel i hi;rw[Vl,Nat.mul_one] at h0;have hxi:i<xs.length:=by omega
   rw[Ac1 hxi] at h0;obtain⟨k',e1,e2,_⟩:=DataW.trod_int underlying98 h0
   have hk2:k'=k:=by
    rw[AcL,Ac1 hxi,e2] at hk
    simpa using hk
   subst hk2;have hc:=World.var?_cell hg2 hv2 i;rw[hc]
   have:cs2.toList[i]?=some (.int .u64 k'):=by
    have h2:=congrArg (fun l=>l[0]?) e1
    simpa [AcM,List.getElem?_drop] using h2
   simpa using this
  rw[←hx1.1] at key;exact⟨key 0 (by omega) _ rfl,key 1 (by omega) _ rfl,key 2 (by omega) _ rfl,key 3 (by omega) _ rfl⟩
end Go.Proofs.YthghcjepdhkfdaaGreatDoor
