/-
  Own text. The document's answer for noise: sealing, opening, the beginning, numbers.
-/
import Derived.Test.YthghcjepdhkfdaaGreatDoorJB6
import Derived.Test.YthghcjepdhkfdaaGreatDoorJB2
import Derived.OrdersHeld
import Derived.Laws.World
import Derived.Deep.MidRow
import Derived.ChangeKeysEq
import Derived.Deep.QuietTactic
import Derived.BigQuiet
set_option maxHeartbeats 16000000
set_option maxRecDepth 100000
open Array renaming ext_getElem?→AcK,getElem?_append_left→AcJ,getElem?_eq_none→Acv,getElem?_setIfInBounds→AcI,length_toList→AcE
open Bool renaming and_eq_true→Acm
open Int renaming add_mul_ediv_left→AcS,add_mul_emod_self_left→AcQ,ediv_ediv_of_nonneg→AcO,emod_eq_of_lt→AcN,eq_ofNat_of_zero_le→Ac3,le_of_lt→Ac4,mul_add→Acw,mul_assoc→Acn,mul_comm→Acy,mul_le_mul_of_nonneg_left→Ac9,mul_le_mul_of_nonneg_right→AcT,pow_add→Ac2,pow_succ→Acr,reducePow→AcA,toNat_natCast→AcB
open List renaming getElem?_eq_none→Ac7,length_cons→AcC,length_take→AcF,map_cons→Acu,map_nil→Acq,map_toArray→Acs,range→Aco,setIfInBounds_toArray→Aci,set_cons_succ→Ach,set_cons_zero→Acj,take_of_length_le→AcD
open Nat renaming add_zero→Ac6,le_refl→Acg,lt_or_ge→Ac5,zero_add→Acl
namespace Go.Proofs.YthghcjepdhkfdaaGreatDoor
open Go.RowKit Go.Proofs
open Tryz
def B9:Nat→Int:=MR (AM 0)
theorem Lm:Byts 12 B9:=YF (fun i _=>Ej 0 i)
theorem VZ(b k:Nat)(w:World):k<2→(Instr.fieldAt 84 (.pointer (some ⟨b,0,none⟩)) k).run prog w=.ok (.pointer (some ⟨b,[0,32].getD k 0,none⟩)) w:=by
 intro hk
 match k,hk with
 | 0,_=>simp[go_sem]
 | 1,_=>simp[go_sem]
theorem IJ{a:Act}{o:Oper}{w:World}{x:Operand}(ho:o.op=.fieldAddr 84 x 0){b:Nat}(hx:a.eval x=.pointer (some ⟨b,0,none⟩)):(execOp a.eval o).run prog w=.ok (.value (.pointer (some ⟨b,0,none⟩))) w:=by
 have h:=VZ b 0 w (by decide);unfold execOp;simp only[ho,hx,Sem.run_bind,h,Result.andThen_ok,Sem.run_pure];rfl
theorem Ln(b:Nat)(k H C:Nat→Int)(s:ByteArray)(w:World)(g:StAt w b H C)(hk:Byts 32 k)(hH:Byts 32 H)(hs:s.size≤140737488355328):Calls prog 43 #[.pointer (some ⟨b,0,none⟩),.agg (WA .u8 32 k),.string s] w fun e w'=>e=.returned (.string (Ek k B9 s (mkS 32 H)))∧StAt w' b (BX H (Ek k B9 s (mkS 32 H))) C∧Touch (fun x=>x=b) w w':=by
 have g0:ArrAt (w.alloc (.cells (WA .u8 32 k) 22)) w.heap.size .u8 22 32 k:=heap_alloc_new w _;have hBa:Below w.heap.size w (w.alloc (.cells (WA .u8 32 k) 22)):=(Below.refl _ w).alloc (Acg _) _;have g1:=g.kept hBa;have ht:=DQ b hBa;have HZ:=Hid.mk (fun u=>T9 k B9 s (mkS 32 H) u hk Lm hs (by rw[Ar];omega));have hzs:(Ek k B9 s (mkS 32 H)).size≤s.size+16:=by rw[E6];exact Acg _
 have hMX:=fun u g=>F0 b H C (Ek k B9 s (mkS 32 H)) u g hH (by omega)
 have HH:=Hid.mk hH;generalize Ek k B9 s (mkS 32 H)=Z at *;clear g hBa;go_enter func43,ntmps43;go_wp2_with fail;refine AJ (fun v=>ArrAt v w.heap.size .u8 22 32 k∧StAt v b H C∧Touch (fun x=>x=b) w v) ⟨g0,g1,ht⟩ ?_;clear g0 g1 ht;rintro v0 ⟨g0,g1,ht⟩;have HK:Hid (∀u,Below v0.heap.size v0 u→ArrAt u w.heap.size .u8 22 32 k):=Hid.mk (fun u hu=>g0.kept hu);have HST:Hid (∀u,Below v0.heap.size v0 u→StAt u b H C):=Hid.mk (fun u hu=>g1.kept hu);refine Ai (Below v0.heap.size v0) v0.heap.size
  ([]:List (Nat×Cont))
  [kv (.agg (WA .u8 32 k)),kv (.agg (WA .u8 12 B9)),kv (.string s),kv (.pointer (some ⟨b,0,none⟩)),kv (.pointer (some ⟨b,0,none⟩)),kv (.pointer (some ⟨b,0,none⟩)),kv (.agg (WA .u8 32 H)),kv (.string (mkS 32 H)),kv (.string Z),kv (.string Z)]
  []
  [some 8,some 9,some 10,some 11,some 12,some 13,some 14,some 15,some 16,some 7]
  [(4,.pointer (some ⟨w.heap.size,0,none⟩)),(2,.string s),(0,.pointer (some ⟨b,0,none⟩))]
  [[],[],[],[],[.slot 3],[.slot 4],[.slot 5],[.slot 6],[.slot 0,.slot 1,.slot 2,.slot 7],[.slot 8]]
  [.slot 9] [8,9,10,11,12,13,14,15,16,7]
  rfl (by kernel_rfl) ⟨rfl,rfl,rfl,trivial⟩ (Below.refl _ v0).drew (Acg _) trivial trivial (A8 (Acg _) trivial)
  ⟨
   (fun _ _ ww _ hS _ fr _=>sV (AA rfl Af (HK.out ww hS) fr.1)),
   (fun _ _ ww _ _ _ _ _=>.inl ⟨trivial,fun K hK=>AH JY rfl (BI rfl) (Ll 0 ww (by omega)) (fun w' hb=>hK _ _ ⟨Ac hb,rfl⟩)⟩),
   sL fun f _=>sV (Ab rfl f.2.1),
   sL fun f _=>sV (Ab rfl f.2.2.1),
   sL fun _ k=>sV (AO rfl k.1),
   sL fun _ k=>sV (IJ rfl k.1),
   (fun _ _ ww _ hS _ _ kn=>sV (Ao rfl Af kn.1 (HST.out ww hS).h)),
   (fun _ _ ww _ _ _ _ kn=>.inl ⟨trivial,fun K hK=>AH Il rfl (BI kn.1) (C5 H ww HH.out) (fun w' hb=>hK _ _ ⟨Ac hb,rfl⟩)⟩),
   (fun _ _ ww _ _ _ _ kn=>.inl ⟨trivial,fun K hK=>AH Qs rfl (Iy kn.1 kn.2.1 kn.2.2.1 kn.2.2.2.1) (HZ.out ww) (fun w' hb=>hK _ _ ⟨Ac hb,rfl⟩)⟩),
   sL fun _ k=>sV (Av rfl k.1),
   trivial⟩ ?_
 intro vs own v5 hB5 hs5 kn inj;clear inj hs5 HK HST;have e7:vs 7=_:=kn.1;clear kn;replace g1:=g1.kept hB5;replace ht:=ht.trans (DQ b hB5);clear hB5 g0;simp only[Am,Act.put,Aci,Acj,Ach,e7];go_wp2_with fail;refine(hMX _ g1).mono ?_;rintro e v9 ⟨rfl,g9,ht9⟩;replace ht9:=ht.trans ht9;clear ht g1 hMX;go_wp2_with fail
 go_ret
 exact⟨rfl,g9,ht9⟩
theorem Lo(b:Nat)(k H C:Nat→Int)(s:ByteArray)(w:World)(g:StAt w b H C)(hk:Byts 32 k)(hH:Byts 32 H)(hs:s.size≤140737488355328):Calls prog 48 #[.pointer (some ⟨b,0,none⟩),.agg (WA .u8 32 k),.string s] w fun e w'=>e=.returned (.tuple #[.string (Bc k B9 s (mkS 32 H)).1,.bool (decide ((Bc k B9 s (mkS 32 H)).2=0))])∧StAt w' b (BX H s) C∧Touch (fun x=>x=b) w w':=by
 have g0:ArrAt (w.alloc (.cells (WA .u8 32 k) 22)) w.heap.size .u8 22 32 k:=heap_alloc_new w _;have hBa:Below w.heap.size w (w.alloc (.cells (WA .u8 32 k) 22)):=(Below.refl _ w).alloc (Acg _) _;have g1:=g.kept hBa;have ht:=DQ b hBa;have HZ:=Hid.mk (fun u=>TA k B9 s (mkS 32 H) u hk Lm hs (by rw[Ar];omega));have hMX:=fun u g=>F0 b H C s u g hH (by omega)
 have HH:=Hid.mk hH;generalize Bc k B9 s (mkS 32 H)=Z at *;clear g hBa;go_enter func48,ntmps48;go_wp2_with fail;refine AJ (fun v=>ArrAt v w.heap.size .u8 22 32 k∧StAt v b H C∧Touch (fun x=>x=b) w v) ⟨g0,g1,ht⟩ ?_;clear g0 g1 ht;rintro v0 ⟨g0,g1,ht⟩;have HK:Hid (∀u,Below v0.heap.size v0 u→ArrAt u w.heap.size .u8 22 32 k):=Hid.mk (fun u hu=>g0.kept hu);have HST:Hid (∀u,Below v0.heap.size v0 u→StAt u b H C):=Hid.mk (fun u hu=>g1.kept hu);refine Ai (Below v0.heap.size v0) v0.heap.size
  ([]:List (Nat×Cont))
  [kv (.agg (WA .u8 32 k)),kv (.agg (WA .u8 12 B9)),kv (.string s),kv (.pointer (some ⟨b,0,none⟩)),kv (.pointer (some ⟨b,0,none⟩)),kv (.pointer (some ⟨b,0,none⟩)),kv (.agg (WA .u8 32 H)),kv (.string (mkS 32 H)),kv (.tuple #[.string Z.1,.int .i64 Z.2]),kv (.tuple #[.string Z.1,.int .i64 Z.2]),kv (.string Z.1),kv (.int .i64 Z.2),kv (.string Z.1),kv (.int .i64 Z.2)]
  []
  [some 11,some 12,some 13,some 14,some 15,some 16,some 17,some 18,some 19,some 10,some 20,some 21,some 8,some 9]
  [(4,.pointer (some ⟨w.heap.size,0,none⟩)),(2,.string s),(0,.pointer (some ⟨b,0,none⟩))]
  [[],[],[],[],[.slot 3],[.slot 4],[.slot 5],[.slot 6],[.slot 0,.slot 1,.slot 2,.slot 7],[.slot 8],[.slot 9],[.slot 9],[.slot 10],[.slot 11]]
  [.slot 12,.slot 13] [11,12,13,14,15,16,17,18,19,10,20,21,8,9]
  rfl (by kernel_rfl) ⟨rfl,rfl,rfl,trivial⟩ (Below.refl _ v0).drew (Acg _) trivial trivial (A8 (Acg _) trivial)
  ⟨
   (fun _ _ ww _ hS _ fr _=>sV (AA rfl Af (HK.out ww hS) fr.1)),
   (fun _ _ ww _ _ _ _ _=>.inl ⟨trivial,fun K hK=>AH JY rfl (BI rfl) (Ll 0 ww (by omega)) (fun w' hb=>hK _ _ ⟨Ac hb,rfl⟩)⟩),
   sL fun f _=>sV (Ab rfl f.2.1),
   sL fun f _=>sV (Ab rfl f.2.2.1),
   sL fun _ k=>sV (AO rfl k.1),
   sL fun _ k=>sV (IJ rfl k.1),
   (fun _ _ ww _ hS _ _ kn=>sV (Ao rfl Af kn.1 (HST.out ww hS).h)),
   (fun _ _ ww _ _ _ _ kn=>.inl ⟨trivial,fun K hK=>AH Il rfl (BI kn.1) (C5 H ww HH.out) (fun w' hb=>hK _ _ ⟨Ac hb,rfl⟩)⟩),
   (fun _ _ ww _ _ _ _ kn=>.inl ⟨trivial,fun K hK=>AH Qt rfl (Iy kn.1 kn.2.1 kn.2.2.1 kn.2.2.2.1) (HZ.out ww) (fun w' hb=>hK _ _ ⟨Ac hb,rfl⟩)⟩),
   sL fun _ k=>sV (Ab rfl k.1),
   sL fun _ k=>sV (Cp rfl k.1 rfl),
   sL fun _ k=>sV (Cp rfl k.1 rfl),
   sL fun _ k=>sV (Av rfl k.1),
   sL fun _ k=>sV (Av rfl k.1),
   trivial⟩ ?_
 intro vs own v5 hB5 hs5 kn inj;clear inj hs5 HK HST;have e8:vs 8=_:=kn.1;have e9:vs 9=_:=kn.2.1;clear kn;replace g1:=g1.kept hB5;replace ht:=ht.trans (DQ b hB5);clear hB5 g0;simp only[Am,Act.put,Aci,Acj,Ach,e8,e9];go_wp2_with fail;refine(hMX _ g1).mono ?_;rintro e v9 ⟨rfl,g9,ht9⟩;replace ht9:=ht.trans ht9;clear ht g1 hMX;go_wp2_with fail;exact bodyPost_ret (v:=.tuple #[.string Z.1,.bool (decide (Z.2=0))]) (Cq results48 (by rfl) (by first | rfl | (simp;done))) rfl ⟨rfl,g9,ht9⟩
def ZO:ByteArray:=⟨#[78,111,105,115,101,95,73,75,112,115,107,50,95,50,53,53,49,57,95,67,104,97,67,104,97,80,111,108,121,95,66,76,65,75,69,50,115]⟩
def F1:Nat→Int:=BJ ZO
def Im(t:Nat→Int):Nat→Int:=BX (BX F1 ⟨#[97,100,105,116,32,49]⟩) (mkS 32 t)
theorem GF(n:Nat):Byts n F1:=fun i _=>Ie _ i
theorem Qu(w:World):(Instr.build 84 #[]).run prog w=.ok (.agg (WA .u8 64 fun _=>0)) w:=by kernel_rfl
theorem OU{a:Act}{o:Oper}{w:World}(ho:o.op=.build 84 #[]):(execOp a.eval o).run prog w=.ok (.value (.agg (WA .u8 64 fun _=>0))) w:=by
 have h:=Qu w;unfold execOp;simp only[ho,Acs,Acq,Sem.run_bind,h,Result.andThen_ok,Sem.run_pure]
theorem YG{ops:Array Oper}{rest:List Oper}{d:Option Tmp}{x:Operand}{t:TypeId}{ps:String}{af:Array Edge}{a:Act}{w:World}{Q:Exit→Act→World→Prop}(hx:a.eval x=.agg (WA .u8 64 fun _=>0))(h:∀w',StAt w' w.heap.size (fun _=>0) (fun _=>0)→Below w.heap.size w w'→wpList prog ops Q rest (a.put d (.pointer (some ⟨w.heap.size,0,none⟩))) w'):wpList prog ops Q ({ dst:=d,op:=.box 84 x,type:=t,pos:=ps,after:=af,guard:=none }::rest) a w:=by
 refine CZ rfl ?_;unfold Oper.wp execOp;simp only[hx];simp[go_sem];have hg:ArrAt (w.alloc (.cells (WA .u8 64 fun _=>0) 84)) w.heap.size .u8 84 64 (fun _=>0):=heap_alloc_new w _;exact h _ (hg.congr (fun i _=>by unfold cat;split<;>rfl)) ((Below.refl _ _).alloc (Acg _) _)
theorem Lp(t C0 H1 HT:Nat→Int)(w:World)(ht:Byts 32 t)(hC0:Byts 32 C0)(hN:∀u,Calls prog 72 #[.string ⟨#[78,111,105,115,101,95,73,75,112,115,107,50,95,50,53,53,49,57,95,67,104,97,67,104,97,80,111,108,121,95,66,76,65,75,69,50,115]⟩] u fun e w'=>e=.returned (.agg (WA .u8 32 C0))∧Below u.heap.size u w')(hA:∀u,Calls prog 72 #[.string (mkS 32 C0++⟨#[97,100,105,116,32,49]⟩)] u fun e w'=>e=.returned (.agg (WA .u8 32 H1))∧Below u.heap.size u w')(hMX:∀b u,StAt u b H1 C0→Calls prog 41 #[.pointer (some ⟨b,0,none⟩),.string (mkS 32 t)] u fun e w'=>e=.returned (.tuple #[])∧StAt w' b HT C0∧Touch (fun x=>x=b) u w'):Calls prog 37 #[.agg (WA .u8 32 t)] w fun e w'=>∃b,w.heap.size≤b∧e=.returned (.pointer (some ⟨b,0,none⟩))∧StAt w' b HT C0∧Below w.heap.size w w':=by
 have g0:ArrAt (w.alloc (.cells (WA .u8 32 t) 22)) w.heap.size .u8 22 32 t:=heap_alloc_new w _;have hB:Below w.heap.size w (w.alloc (.cells (WA .u8 32 t) 22)):=(Below.refl _ w).alloc (Acg _) _;have HL:Hid ((mkS 32 C0).size+(⟨#[97,100,105,116,32,49]⟩:ByteArray).size≤9223372036854775807):=Hid.mk (by rw[Ar];decide);have hTx:=fun u=>C5 C0 u hC0
 go_enter func37,ntmps37
 go_wp2_with (first|(refine Ae rfl (OU rfl) ?_)|(refine YG (by rfl) ?_;intro v1 g1 hb1;refine Hid.out ?_))
 replace g0:=g0.kept hb1;replace hB:=hB.trans (hb1.mono hB.size);obtain⟨b,hbv⟩:∃b,b=w.heap.size+1:=⟨_,rfl⟩;replace g1:StAt v1 b (fun _=>0) (fun _=>0):=by rw[hbv];simpa using g1
 have hz:w.heap.size<b:=by omega
 clear hb1;refine Hid.mk ?_;rw[←hbv];clear hbv;go_wp2_with fail;refine(hN _).mono ?_;rintro e v2 ⟨rfl,hb2⟩;replace g0:=g0.kept hb2;replace g1:=g1.kept hb2;replace hB:=hB.trans (hb2.mono hB.size);clear hb2 hN
 go_wp2_with (refine VY g1 (by rfl) (by rfl) ?_;intro v3 g3 o3;refine Hid.out ?_)
 replace g0:=g0.only o3 (by omega);replace hB:=hB.trans (o3.below (by omega));clear o3 g1;have hr:=g3.c;refine Hid.mk ?_
 go_wp2_with (refine Ae rfl (Ao rfl Af (by rfl) hr) ?_)
 refine(hTx _).mono ?_;rintro e v4 ⟨rfl,hb4⟩;replace g0:=g0.kept hb4;replace g3:=g3.kept hb4;replace hB:=hB.trans (hb4.mono hB.size);clear hb4 hr hTx
 go_wp2_with (refine Ae rfl (Be rfl (by rfl) (by rfl) HL.out) ?_)
 refine(hA _).mono ?_;rintro e v5 ⟨rfl,hb5⟩;replace g0:=g0.kept hb5;replace g3:=g3.kept hb5;replace hB:=hB.trans (hb5.mono hB.size);clear hb5 hA
 go_wp2_with (refine VX g3 (by rfl) (by rfl) ?_;intro v6 g6 o6;refine Hid.out ?_)
 replace g0:=g0.only o6 (by omega);replace hB:=hB.trans (o6.below (by omega));clear o6 g3;refine Hid.mk ?_
 go_wp2_with (refine Aq Af g0 (by rfl) ?_)
 refine(C5 t _ ht).mono ?_;rintro e v7 ⟨rfl,hb7⟩;replace g6:=g6.kept hb7;replace hB:=hB.trans (hb7.mono hB.size);clear hb7 g0;go_wp2_with fail;refine(hMX b _ g6).mono ?_;rintro e v8 ⟨rfl,g8,ht8⟩;replace hB:=AU hB ht8 (by omega) (Acg _);go_wp2_with fail
 go_ret
 exact⟨b,by omega,rfl,g8,hB⟩
theorem Wa(H:Nat→Int)(s:ByteArray)(u:World)(hs:s.size≤281474976710656):Calls prog 72 #[.string (mkS 32 H++s)] u fun e w'=>e=.returned (.agg (WA .u8 32 (BX H s)))∧Below u.heap.size u w':=IF (mkS 32 H++s) u (by rw[ByteArray.size_append,Ar];omega)
theorem Wb(u:World):Calls prog 72 #[.string ⟨#[78,111,105,115,101,95,73,75,112,115,107,50,95,50,53,53,49,57,95,67,104,97,67,104,97,80,111,108,121,95,66,76,65,75,69,50,115]⟩] u fun e w'=>e=.returned (.agg (WA .u8 32 F1))∧Below u.heap.size u w':=IF ZO u (by decide)
theorem Wc(X C0:Nat→Int)(A:ByteArray)(t:Nat→Int)(b:Nat)(u:World)(g:StAt u b (BX X A) C0):Calls prog 41 #[.pointer (some ⟨b,0,none⟩),.string (mkS 32 t)] u fun e w'=>e=.returned (.tuple #[])∧StAt w' b (BX (BX X A) (mkS 32 t)) C0∧Touch (fun x=>x=b) u w':=
 F0 b (BX X A) C0 (mkS 32 t) u g (C6 _ _ 32) (by rw[Ar];omega)
theorem GG(t:Nat→Int)(w:World)(ht:Byts 32 t):Calls prog 37 #[.agg (WA .u8 32 t)] w fun e w'=>∃b,w.heap.size≤b∧e=.returned (.pointer (some ⟨b,0,none⟩))∧StAt w' b (Im t) F1∧Below w.heap.size w w':=by
 have hA:=fun u=>Wa F1 ⟨#[97,100,105,116,32,49]⟩ u (by decide)
 have hM:=Wc F1 F1 ⟨#[97,100,105,116,32,49]⟩ t;have h:=Lp t F1 _ _ w ht (GF 32) Wb hA hM;unfold Im;exact h
end Go.Proofs.YthghcjepdhkfdaaGreatDoor
namespace Go.Proofs.YthghcjepdhkfdaaGreatDoor.Fld
open Go.RowKit Go.Proofs
open Tryz
theorem DW{n:Int}(h0:0≤n)(h1:n<Bm):V4 (Ec n 0) (Ec n 8) (Ec n 16) (Ec n 24)=n:=by
 unfold V4 Ec Bm at *;omega
theorem TB(n:Int)(w:World)(h0:0≤n)(h1:n<Bm):Calls prog 100 #[.agg (BA n)] w fun e w'=>e=.returned (.agg (BA (n%P255)))∧Below w.heap.size w w':=by
 go_enter func100,ntmps100
 go_wp2_with (refine A7 rfl _ rfl _ _ rfl (heap_alloc2_old w _ _) (Ah _) ?_)
 refine(Ed n _).mono ?_;rintro e w1 ⟨rfl,hb1⟩;have g1:=Aj hb1 (heap_alloc2_new w _ _) (by simp<;>omega)
 have hB1:Hid (Below w.heap.size w w1):=by
  refine Below.trans ?_ (hb1.mono (by simp<;>omega))
  repeat first | exact Below.refl _ _ | refine Below.alloc ?_ (by simp<;>omega) _
 clear hb1;go_wp2_with fail;refine(D5 _ _ _ _ _ (AR _ _) (AR _ _) (AR _ _) (AR _ _)).mono ?_;rintro e w2 ⟨rfl,hb2⟩;have g2:=Aj hb2 g1 (Aa g1);have hB2:Hid (Below w.heap.size w w2):=Below.trans hB1.out (hb2.mono hB1.out.size);clear hb2 g1
 go_wp2_with (refine BF rfl _ _ rfl _ _ rfl rfl _ g2 rfl ?_;intro w3 g3 o3)
 refine bodyPost_ret (v:=.agg (BA (n%P255))) ?_ rfl ⟨rfl,Below.trans hB2.out (Only.below (b:=w.heap.size+1) (B:=w.heap.size) o3 (by omega))⟩;rw[DW h0 h1] at g3;exact results_cell_row rfl _ _ _ _ _ _ _ rfl g3 underlying22 rfl (by rw[Ah];exact Bo)
theorem Wd(n:Int)(h0:-9223372036854775808≤n)(h1:n<0):IntKind.u64.wrap (-IntKind.u64.wrap n)=-n:=by
 rw[IntKind.wrap_u64,IntKind.wrap_u64];omega
theorem We(n:Int)(h0:0≤n)(h1:n<9223372036854775808):IntKind.u64.wrap n=n:=by
 rw[IntKind.wrap_u64];omega
theorem NM(n:Int):V4 n 0 0 0=n:=by unfold V4;omega
theorem YH{n z:Int}(h:z=P255-(-n)):z%P255=n%P255:=by
 rw[h,show P255-(-n)=n+P255 by omega,Int.add_emod_right]
theorem JA(n:Int)(w:World)(hP:PrimeAt w)(h0:-9223372036854775808≤n)(h1:n<9223372036854775808):Calls prog 58 #[.int .i64 n] w fun e w'=>e=.returned (.agg (BA (n%P255)))∧Below w.heap.size w w':=by
 have hp0:=Cr hP;have HP:=Hid.mk hP;clear hP
 by_cases hn:n<0
 ·have hw:=Wd n h0 hn
  go_enter func58,ntmps58;go_wp2_with fail;refine(IC _ _ _ _ _ (CN HP.out ((Below.refl _ _).alloc (Acg _) _) hp0) (by unfold U64;omega) Dl Dl Dl (by rw[NM];unfold P255;omega)).mono ?_;rintro e w1 ⟨z0,z1,z2,z3,hz0,hz1,hz2,hz3,ez,rfl,hb1⟩;have g1:=Aj hb1 (heap_alloc_new w _) (by simp<;>omega);have hB1:Hid (Below w.heap.size w w1):=Below.trans ((Below.refl _ _).alloc (Acg _) _) (hb1.mono (by simp<;>omega));have EZ:=Hid.mk ez;clear hb1 ez;go_wp2_with fail;refine(D5 _ _ _ _ _ hz0 hz1 hz2 hz3).mono ?_;rintro e w2 ⟨rfl,hb2⟩;have g2:=Aj hb2 g1 (Aa g1);have hB2:Hid (Below w.heap.size w w2):=Below.trans hB1.out (hb2.mono hB1.out.size);clear hb2 g1
  go_wp2_with (refine BF rfl _ _ rfl _ _ rfl rfl _ g2 rfl ?_;intro w3 g3 o3)
  refine bodyPost_ret (v:=.agg (BA (n%P255))) ?_ rfl ⟨rfl,Below.trans hB2.out (Only.below (b:=w.heap.size) (B:=w.heap.size) o3 (by omega))⟩;have ez:=EZ.out;rw[NM] at ez;rw[YH ez] at g3;exact results_cell_row rfl _ _ _ _ _ _ _ rfl g3 underlying22 rfl (by rw[Ah];exact Bo)
 ·have hw:=We n (by omega) h1
  go_enter func58,ntmps58;go_wp2_with fail;refine(D5 _ _ _ _ _ (by unfold U64;omega) Dl Dl Dl).mono ?_;rintro e w2 ⟨rfl,hb2⟩;have g2:=Aj hb2 (heap_alloc_new w _) (by simp<;>omega);have hB2:Hid (Below w.heap.size w w2):=Below.trans ((Below.refl _ _).alloc (Acg _) _) (hb2.mono (by simp<;>omega));clear hb2
  go_wp2_with (refine BF rfl _ _ rfl _ _ rfl rfl _ g2 rfl ?_;intro w3 g3 o3)
  refine bodyPost_ret (v:=.agg (BA (n%P255))) ?_ rfl ⟨rfl,Below.trans hB2.out (Only.below (b:=w.heap.size) (B:=w.heap.size) o3 (by omega))⟩;rw[NM] at g3;exact results_cell_row rfl _ _ _ _ _ _ _ rfl g3 underlying22 rfl (by rw[Ah];exact Bo)
end Go.Proofs.YthghcjepdhkfdaaGreatDoor.Fld
namespace Go.Proofs.YthghcjepdhkfdaaGreatDoor.Fld
open Go
section
variable {P:Program} {ops:Array Oper} {Q:Exit→Act→World→Prop} {md:Region.Mode} {S:World→Prop} {T:Nat→Bool}
def Io(P:Program)(md:Region.Mode)(ops:Array Oper)(Q:Exit→Act→World→Prop)(S:World→Prop)(T:Nat→Bool):Nat→Array Bool→Act→World→Prop
 | 0,listed,a,w=>Region.ready md ops listed=[]∧Q .normal a w
 | fuel+1,listed,a,w =>
  (Region.ready md ops listed=[]→Q .normal a w) ∧
  ∀i∈Region.ready md ops listed,wpOp P ops Q i (fun a' w'=>(T i=true→S w→S w')∧Io P md ops Q S T fuel (listed.setIfInBounds i true) a' w') a w
theorem Lq:∀(fuel:Nat) (listed:Array Bool) (a:Act) (w:World),Io P md ops Q S T fuel listed a w→wpAny P md ops Q fuel listed a w
 | 0,_,_,_,h=>h
 | fuel+1,_,_,_,h=>⟨h.1,fun i hi=>wpOp_mono (fun a' w' h'=>Lq fuel _ a' w' h'.2) (h.2 i hi)⟩
def KK(md:Region.Mode)(oj:Oper)(i:Nat):Bool:=oj.after.any fun e=>Region.binds md e && e.on==i
theorem Qv{oj:Oper}{i:Nat}(h:KK md oj i=true):∃e∈oj.after,Region.binds md e=true∧e.on=i:=by
 obtain⟨e,he,hb⟩:=Array.any_eq_true'.1 h;simp only[Acm,beq_iff_eq] at hb;exact⟨e,he,hb.1,hb.2⟩
theorem NO{i:Nat}{oi:Oper}{v:Value}(hi:ops[i]?=some oi)(hsel:∀(j:Nat) (o:Oper) cs b,ops[j]?=some o→o.op≠.select cs b)(hQ:∀c a w,Q (.panic c) (a.put oi.dst v) w→Q (.panic c) a w):∀(fuel:Nat) (listed:Array Bool) (a:Act) (w:World), (∀j oj,ops[j]?=some oj→j≠i→listed.getD j true=false→(∀e∈oj.after,Region.binds md e=true→e.on≠i)→oi.apart ops oj=true) →(∀j oj,ops[j]?=some oj→j≠i→listed.getD j true=false→T j=false→∃e∈oj.after,Region.binds md e=true∧e.on=i) →i∈Region.ready md ops listed→YieldsIf P ops S oi v a→S w →Io P md ops Q S T fuel (listed.setIfInBounds i true) (a.put oi.dst v) w→Io P md ops Q S T (fuel+1) listed a w:=by
 intro fuel
 induction fuel with
 | zero =>
  intro listed a w _ _ hr hy hS H;refine⟨fun h=>(by rw[h] at hr;cases hr),fun j hj=>?_⟩
  by_cases hji:j=i
  ·subst hji;exact hy.wpOp hi hS ⟨fun _ h=>h,H⟩
  ·have:=ready_mono hj hji
   rw[H.1] at this;cases this
 | succ fuel ih =>
  intro listed a w hfree hT hr hy hS H;refine⟨fun h=>(by rw[h] at hr;cases hr),fun j hj=>?_⟩
  by_cases hji:j=i
  ·subst hji;exact hy.wpOp hi hS ⟨fun _ h=>h,H⟩
  ·have h1:=H.2 j (ready_mono hj hji)
   obtain⟨hjun,oj,hoj,hall⟩:=mem_ready.1 hj
   have hnot:∀e∈oj.after,Region.binds md e=true→e.on≠i:=fun e he hb heq=>by
    have h1:=hall e he hb;have h0:=(mem_ready.1 hr).1;rw[heq] at h1
    rcases Ac5 i listed.size with h' | h'
    ·simp[h'] at h0 h1;rw[h0] at h1;cases h1
    ·simp[Acv h'] at h1
   have hTj:T j=true:=by
    cases hq:T j with
    | true=>rfl
    | false=>obtain⟨e,he,hb,ho⟩:=hT j oj hoj hji hjun hq;exact absurd ho (hnot e he hb)
   have h2:=wpOp_putIf hoj (hfree j oj hoj hji hjun hnot) (fun cs b=>hsel i oi cs b hi) (fun cs b=>hsel j oj cs b hoj) hQ hy h1
   have hun:∀k,(listed.setIfInBounds j true).getD k true=false→listed.getD k true=false:=fun k hk=>by
    by_cases hjk:j=k
    ·subst hjk;exact hjun
    ·rw[getD_set_ne true hjk] at hk;exact hk
   refine wpOp_mono (fun a' w' h3=>⟨h3.2.1,ih (listed.setIfInBounds j true) a' w' (fun k ok hk hki hu hno=>hfree k ok hk hki (hun k hu) hno)
    (fun k ok hk hki hu ht=>hT k ok hk hki (hun k hu) ht) (ready_mono hr (Ne.symm hji)) h3.1 (h3.2.1 hTj hS) ?_⟩) h2
   rw[Array.setIfInBounds_comm _ _ hji];exact h3.2.2
theorem Ml{i:Nat}{oi:Oper}{v:Value}(hi:ops[i]?=some oi)(hsel:∀(j:Nat) (o:Oper) cs b,ops[j]?=some o→o.op≠.select cs b)(hQ:∀c a w,Q (.panic c) (a.put oi.dst v) w→Q (.panic c) a w):∀(fuel:Nat) (listed:Array Bool) (a:Act) (w:World), (∀j oj,ops[j]?=some oj→j≠i→listed.getD j true=false→(∀e∈oj.after,Region.binds md e=true→e.on≠i)→oi.apart ops oj=true) →i∈Region.ready md ops listed→YieldsIf P ops (fun _=>True) oi v a →Io P md ops Q S T fuel (listed.setIfInBounds i true) (a.put oi.dst v) w→Io P md ops Q S T (fuel+1) listed a w:=by
 intro fuel
 induction fuel with
 | zero =>
  intro listed a w _ hr hy H;refine⟨fun h=>(by rw[h] at hr;cases hr),fun j hj=>?_⟩
  by_cases hji:j=i
  ·subst hji;exact hy.wpOp hi trivial ⟨fun _ h=>h,H⟩
  ·have:=ready_mono hj hji
   rw[H.1] at this;cases this
 | succ fuel ih =>
  intro listed a w hfree hr hy H;refine⟨fun h=>(by rw[h] at hr;cases hr),fun j hj=>?_⟩
  by_cases hji:j=i
  ·subst hji;exact hy.wpOp hi trivial ⟨fun _ h=>h,H⟩
  ·have h1:=H.2 j (ready_mono hj hji)
   obtain⟨hjun,oj,hoj,hall⟩:=mem_ready.1 hj
   have hnot:∀e∈oj.after,Region.binds md e=true→e.on≠i:=fun e he hb heq=>by
    have h1:=hall e he hb;have h0:=(mem_ready.1 hr).1;rw[heq] at h1
    rcases Ac5 i listed.size with h' | h'
    ·simp[h'] at h0 h1;rw[h0] at h1;cases h1
    ·simp[Acv h'] at h1
   have h2:=wpOp_putIf hoj (hfree j oj hoj hji hjun hnot) (fun cs b=>hsel i oi cs b hi) (fun cs b=>hsel j oj cs b hoj) hQ hy h1
   have hun:∀k,(listed.setIfInBounds j true).getD k true=false→listed.getD k true=false:=fun k hk=>by
    by_cases hjk:j=k
    ·subst hjk;exact hjun
    ·rw[getD_set_ne true hjk] at hk;exact hk
   refine wpOp_mono (fun a' w' h3=>⟨h3.2.1,ih (listed.setIfInBounds j true) a' w' (fun k ok hk hki hu hno=>hfree k ok hk hki (hun k hu) hno)
    (ready_mono hr (Ne.symm hji)) h3.1 ?_⟩) h2
   rw[Array.setIfInBounds_comm _ _ hji];exact h3.2.2
def TC(md:Region.Mode)(ops:Array Oper)(F:Nat→Nat)(T:Nat→Bool):List Nat→Array Bool→Bool
 | [],listed=>(Region.ready md ops listed).isEmpty
 | i::l,listed =>
  (match F i with
   | 0=>Region.ready md ops listed==[i]
   | 1=>(Region.ready md ops listed).contains i && Region.free md ops listed i &&
    (Aco ops.size).all (fun j=>j==i || listed.getD j true || T j || match ops[j]? with | some oj=>KK md oj i | none=>true)
   | _=>(Region.ready md ops listed).contains i && Region.free md ops listed i) && TC md ops F T l (listed.setIfInBounds i true)
def DJ(P:Program)(ops:Array Oper)(Q:Exit→Act→World→Prop)(S:World→Prop)(F:Nat→Nat)(T:Nat→Bool):List Nat→Act→World→Prop
 | [],a,w=>Q .normal a w
 | i::l,a,w=>match F i with
  | 0=>wpOp P ops Q i (fun a' w'=>(T i=true→S w→S w')∧DJ P ops Q S F T l a' w') a w
  | 1=>∃o v,ops[i]?=some o∧YieldsIf P ops S o v a∧S w∧DJ P ops Q S F T l (a.put o.dst v) w
  | _=>∃o v,ops[i]?=some o∧YieldsIf P ops (fun _=>True) o v a∧DJ P ops Q S F T l (a.put o.dst v) w
theorem FT{F:Nat→Nat}(hs:Region.noSelect ops=true)(hQ:∀c a d v w,Q (.panic c) (a.put d v) w→Q (.panic c) a w):∀(l:List Nat) (listed:Array Bool) (a:Act) (w:World),TC md ops F T l listed=true→DJ P ops Q S F T l a w→Io P md ops Q S T l.length listed a w
 | [],listed,a,w,hB,h=>⟨by simpa [TC] using hB,h⟩
 | i::l,listed,a,w,hB,h=>by
  simp only[TC,Acm] at hB;obtain⟨hB1,hB2⟩:=hB;simp only[DJ] at h
  match hF:F i with
  | 0 =>
   simp only[hF,beq_iff_eq] at hB1 h;refine⟨fun h0=>(by rw[hB1] at h0;cases h0),fun j hj=>?_⟩;rw[hB1] at hj;obtain rfl:j=i:=by simpa using hj
   exact wpOp_mono (fun a' w' h'=>⟨h'.1,FT hs hQ l _ _ _ hB2 h'.2⟩) h
  | 1 =>
   simp only[hF,Acm] at hB1 h;obtain⟨⟨hr,hf⟩,hw⟩:=hB1;obtain⟨o,v,ho,hy,hS,hrest⟩:=h;refine NO ho (Region.noSelect_spec hs) (fun c a w=>hQ c a _ _ w) _ listed a w (Region.free_spec ho hf) (fun j oj hj hji hun ht=>?_) (by simpa using hr) hy hS (FT hs hQ l _ _ _ hB2 hrest);have hjlt:j<ops.size:=(Array.getElem?_eq_some_iff.1 hj).1;have h1:=List.all_eq_true.1 hw j (List.mem_range.2 hjlt);simp only[hun,ht,hj,Bool.or_false,Bool.or_eq_true,beq_iff_eq] at h1
   rcases h1 with h1 | h1
   ·exact absurd h1 hji
   ·exact Qv h1
  | n+2 =>
   simp only[hF,Acm] at hB1 h;obtain⟨hr,hf⟩:=hB1;obtain⟨o,v,ho,hy,hrest⟩:=h;exact Ml ho (Region.noSelect_spec hs) (fun c a w=>hQ c a _ _ w) _ listed a w (Region.free_spec ho hf) (by simpa using hr) hy (FT hs hQ l _ _ _ hB2 hrest)
theorem Mm{id:Nat}{a:Act}{w:World}(S:World→Prop)(F:Nat→Nat)(T:Nat→Bool)(l:List Nat)(hm:P.follows .mixedOrders=true)(hB:(Region.noSelect ops && l.length==ops.size && TC .any ops F T l (Array.replicate ops.size false))=true)(hQ:∀c a d v w,Q (.panic c) (a.put d v) w→Q (.panic c) a w)(h:DJ P ops Q S F T l a w.drew):(Code.region id ops true).wp P Q a w:=by
 simp only[Acm,beq_iff_eq] at hB;obtain⟨⟨hs,hl⟩,hB⟩:=hB;refine wp_region_any hm (Lq (S:=S) (T:=T) _ _ _ _ ?_);have:=FT (S:=S) hs hQ l _ a _ hB h;rw[hl] at this;exact this
theorem Ay{id:Nat}{a:Act}{w:World}(S:World→Prop)(F:Nat→Nat)(T:Nat→Bool)(l:List Nat)(hm:P.follows .mixedOrders=true)(hB:(Region.noSelect ops && l.length==ops.size && TC .any ops F T l (Array.replicate ops.size false))=true)(hQ:∀c a d v w,Q (.panic c) (a.put d v) w→Q (.panic c) a w)(hS:S w.drew)(h:S w.drew→DJ P ops Q S F T l a w.drew):(Code.region id ops true).wp P Q a w:=Mm S F T l hm hB hQ (h hS)
theorem NP{i:Nat}{o:Oper}{rest:List Oper}(ho:ops.toList.drop i=o::rest):ops[i]?=some o:=by
 rw[←Array.getElem?_toList];have h:=congrArg (fun l=>l[0]?) ho
 simpa [List.getElem?_drop] using h
theorem AN{F:Nat→Nat}{i:Nat}{l:List Nat}{o:Oper}{v:Value}{a:Act}{w:World}(hF:F i=1){rest:List Oper}(ho:ops.toList.drop i=o::rest)(hw:Region.wanted o (yielded ops a.tmps)=true)(hS:S w)(hy:∀w,S w→(execOp a.eval o).run P w=.ok (.value v) w)(h:DJ P ops Q S F T l (a.put o.dst v) w):DJ P ops Q S F T (i::l) a w:=by
 simp only[DJ,hF];exact⟨o,v,NP ho,.inl ⟨hw,hy⟩,hS,h⟩
theorem Au{F:Nat→Nat}{i:Nat}{l:List Nat}{o:Oper}{v:Value}{a:Act}{w:World}(hF:F i=2){rest:List Oper}(ho:ops.toList.drop i=o::rest)(hw:Region.wanted o (yielded ops a.tmps)=true)(hy:∀w,(execOp a.eval o).run P w=.ok (.value v) w)(h:DJ P ops Q S F T l (a.put o.dst v) w):DJ P ops Q S F T (i::l) a w:=by
 simp only[DJ,hF];exact⟨o,v,NP ho,.inl ⟨hw,fun w _=>hy w⟩,h⟩
theorem Az{F:Nat→Nat}{i:Nat}{l:List Nat}{o:Oper}{a:Act}{w:World}(hF:F i=0){rest:List Oper}(ho:ops.toList.drop i=o::rest)(hw:Region.wanted o (yielded ops a.tmps)=true)(h:∀K:Act→World→Prop,(∀a w',(T i=true→S w→S w')→DJ P ops Q S F T l a w'→K a w')→o.wp P a w K Q):DJ P ops Q S F T (i::l) a w:=by
 simp only[DJ,hF,wpOp,NP ho,hw,if_true];exact .inl (h _ (fun a w h1 h2=>⟨h1,h2⟩))
theorem Bf{F:Nat→Nat}{a:Act}{w:World}(h:Q .normal a w):DJ P ops Q S F T [] a w:=h
end
end Go.Proofs.YthghcjepdhkfdaaGreatDoor.Fld
namespace Go.Proofs.YthghcjepdhkfdaaGreatDoor.Fld
open Go.RowKit Go.Proofs
open Tryz
theorem Bj{a:Act}{o:Oper}{x:Operand}{w:World}(ho:o.op=.load 22 x)(g:Nat)(cs:Array Value)(hx:a.eval x=.pointer (some ⟨g,0,none⟩))(hs:cs.size=32)(hg:w.heap[g]?=some (.cells cs 22 (0,0))):(execOp a.eval o).run prog w=.ok (.value (.agg cs)) w:=by
 unfold execOp;simp only[ho,hx,Instr.loadAt,Instr.sureAddr,Sem.run_bind,Sem.run_pure,Result.andThen_ok,run_loadVar_row w g 22 22 cs (0,0) _ hg underlying22 rfl (by rw[hs];exact Bo)]
theorem Lr{a:Act}{o:Oper}{x:Operand}{w:World}(ho:o.op=.load 142 x)(g:Nat)(v0 v1 v2 v3:Value)(hx:a.eval x=.pointer (some ⟨g,0,none⟩))(hg:w.heap[g]?=some (.cells #[v0,v1,v2,v3] 142 (0,0))):(execOp a.eval o).run prog w=.ok (.value (.agg #[v0,v1,v2,v3])) w:=by
 unfold execOp;simp only[ho,hx,Instr.loadAt,Instr.sureAddr,Sem.run_bind,Sem.run_pure,Result.andThen_ok,run_loadVar_row w g 142 142 _ (0,0) _ hg underlying142 rfl (by kernel_rfl)]
theorem E7{a:Act}{o:Oper}{w:World}{K:Act→World→Prop}{Q:Exit→Act→World→Prop}(x y:Operand)(ho:o.op=.store 22 x y)(g:Nat)(n:Int)(hx:a.eval x=.pointer (some ⟨g,0,none⟩))(hy:a.eval y=.agg (BA n))(old:Array Value)(hg:w.heap[g]?=some (.cells old 22 (0,0)))(hold:old.size=32)(h:∀w2,w2.heap[g]?=some (.cells (BA n) 22 (0,0))→Only g w w2→K (a.put o.dst undef) w2):o.wp prog a w K Q:=
 wp_store_row 22 x y ho g _ hx hy 22 old hg (by rw[Ah];exact Bo) (by rw[Ah];exact hold) (N4 n) (h _ (setRow_heap w g old _ 22 (0,0) hg) (Cd w g _))
theorem MT{a:Act}{o:Oper}{w:World}{K:Act→World→Prop}{Q:Exit→Act→World→Prop}(x y:Operand)(ho:o.op=.store 142 x y)(g:Nat)(y0 y1 y2 y3:Int)(hx:a.eval x=.pointer (some ⟨g,0,none⟩))(hy:a.eval y=.agg #[.int .u64 y0,.int .u64 y1,.int .u64 y2,.int .u64 y3])(v0 v1 v2 v3:Value)(hg:w.heap[g]?=some (.cells #[v0,v1,v2,v3] 142 (0,0)))(h:∀w2,w2.heap[g]?=some (.cells #[.int .u64 y0,.int .u64 y1,.int .u64 y2,.int .u64 y3] 142 (0,0))→Only g w w2→K (a.put o.dst undef) w2):o.wp prog a w K Q:=
 wp_store_row 142 x y ho g _ hx hy 142 _ hg (by kernel_rfl) rfl (by simp[Value.oneCell']) (h _ (setRow_heap w g _ _ 142 (0,0) hg) (Cd w g _))
theorem AB(w:World)(A B C:Obj):(((w.alloc A).alloc B).alloc C).heap[w.heap.size+1]?=some B:=by
 rw[Below.heap_alloc _ _ _ (by simp<;>omega)];exact heap_alloc2_new w A B
theorem A6(w:World)(A B C:Obj):(((w.alloc A).alloc B).alloc C).heap[w.heap.size]?=some A:=by
 rw[Below.heap_alloc _ _ _ (by simp<;>omega)];exact heap_alloc2_old w A B
theorem Ef(n:Int):0≤n%P255∧n%P255<P255:=⟨Int.emod_nonneg _ (by unfold P255;decide),Int.emod_lt_of_pos _ (by unfold P255;decide)⟩
theorem YI{z a b y o k:Int}(e1:y=b%P255)(e2:o=P255-y)(e3:z=a+o+k*P255):z%P255=(a-b)%P255:=by
 have hb:b=P255*(b/P255)+b%P255:=(Int.mul_ediv_add_emod b P255).symm;have:z=(a-b)+P255*(1+k+b/P255):=by rw[e3,e2,e1];rw[Acw,Acw,Int.mul_one,Acy P255 k];omega
 rw[this,AcQ]
def AbX(i:Nat):Nat:=[1,0,1].getD i 0
def AbY(i:Nat):Bool:=i != 8
theorem K1(a b:Int)(w:World)(hP:PrimeAt w)(ha0:0≤a)(ha1:a<Bm)(hb0:0≤b)(hb1:b<Bm):Calls prog 167 #[.agg (BA a),.agg (BA b)] w fun e w'=>e=.returned (.agg (BA ((a-b)%P255)))∧Below w.heap.size w w':=by
 have hp0:=Cr hP;have HP:=Hid.mk hP;clear hP;go_enter func167,ntmps167;go_wp2
 refine AJ (fun v=>v.heap[w.heap.size]?=some (.cells (BA a) 22 (0,0))∧v.heap[w.heap.size+1]?=some (.cells (BA b) 22 (0,0)) ∧
  (∃z:Array Value,v.heap[w.heap.size+1+1]?=some (.cells z 22 (0,0))∧z.size=32)∧Below w.heap.size w v)
  ⟨A6 w _ _ _,AB w _ _ _,⟨_,AK w _ _ _,rfl⟩,by repeat first | exact Below.refl _ _ | refine Below.alloc ?_ (by simp<;>omega) _⟩ ?_
 rintro v0 ⟨ga,gb,⟨z,gz,sz⟩,hB⟩;refine Ay (fun v=>v.heap[w.heap.size]?=some (.cells (BA a) 22 (0,0))∧v.heap[w.heap.size+1]?=some (.cells (BA b) 22 (0,0)))
  AbX AbY [0,2,1,3,4,5,6,7,8] rfl (by kernel_rfl) (fun _ _ d _ _ h=>by cases d<;>exact h) ⟨ga,gb⟩ (fun HS=>?_)
 apply AN rfl rfl rfl HS
 focus exact fun v h=>Bj rfl _ _ rfl (Ah _) h.1
 simp only[Act.put,Aci,Acj,Ach];apply AN rfl rfl rfl HS
 focus exact fun v h=>Bj rfl _ _ rfl (Ah _) h.2
 simp only[Act.put,Aci,Acj,Ach];clear HS ga gb;refine Az rfl rfl rfl ?_;intro K hK
 go_simp
 refine(Ed a _).mono ?_;rintro e v1 ⟨rfl,hb⟩;have gz:=Aj hb gz (Aa gz);have hB:=Below.trans (Below.drew hB) (hb.mono hB.size);refine hK _ _ (fun _ h=>⟨Aj hb h.1 (Aa h.1),Aj hb h.2 (Aa h.2)⟩) ?_;clear hK K hb;refine Az rfl rfl rfl ?_;intro K hK
 go_simp
 refine(Ed b _).mono ?_;rintro e v2 ⟨rfl,hb⟩;have gz:=Aj hb gz (Aa gz);have hB:=Below.trans hB (hb.mono hB.size);refine hK _ _ (fun _ h=>⟨Aj hb h.1 (Aa h.1),Aj hb h.2 (Aa h.2)⟩) ?_;clear hK K hb;refine Az rfl rfl rfl ?_;intro K hK
 go_simp
 refine(M8 _ _ _ _ _ (AR _ _) (AR _ _) (AR _ _) (AR _ _)).mono ?_;rintro e v3 ⟨y0,y1,y2,y3,hy0,hy1,hy2,hy3,ey,rfl,hb⟩;have gz:=Aj hb gz (Aa gz);have hB:=Below.trans hB (hb.mono hB.size);refine hK _ _ (fun _ h=>⟨Aj hb h.1 (Aa h.1),Aj hb h.2 (Aa h.2)⟩) ?_;clear hK K hb;rw[DW hb0 hb1] at ey;have hy:=(Ef b).2;have EY:=Hid.mk ey;have hle:V4 y0 y1 y2 y3≤P255:=by rw[ey];omega
 clear ey hy;have HL:=Hid.mk hle;clear hle;refine Az rfl rfl rfl ?_;intro K hK
 go_simp
 refine(IC _ _ _ _ _ (CN HP.out hB hp0) hy0 hy1 hy2 hy3 HL.out).mono ?_;rintro e v4 ⟨o0,o1,o2,o3,ho0,ho1,ho2,ho3,eo,rfl,hb⟩;have gz:=Aj hb gz (Aa gz);have hB:=Below.trans hB (hb.mono hB.size);refine hK _ _ (fun _ h=>⟨Aj hb h.1 (Aa h.1),Aj hb h.2 (Aa h.2)⟩) ?_;clear hK K hb;have EO:=Hid.mk eo;clear eo;refine Az rfl rfl rfl ?_;intro K hK
 go_simp
 refine(Ow _ _ _ _ _ _ _ _ _ (AR _ _) (AR _ _) (AR _ _) (AR _ _) ho0 ho1 ho2 ho3).mono ?_;rintro e v5 ⟨q0,q1,q2,q3,hq0,hq1,hq2,hq3,⟨k,ek⟩,rfl,hb⟩;have gz:=Aj hb gz (Aa gz);have hB:=Below.trans hB (hb.mono hB.size);refine hK _ _ (fun _ h=>⟨Aj hb h.1 (Aa h.1),Aj hb h.2 (Aa h.2)⟩) ?_;clear hK K hb;rw[DW ha0 ha1] at ek;have EK:=Hid.mk (YI EY.out EO.out ek);clear ek;refine Az rfl rfl rfl ?_;intro K hK
 go_simp
 refine(D5 _ _ _ _ _ hq0 hq1 hq2 hq3).mono ?_;rintro e v6 ⟨rfl,hb⟩;have gz:=Aj hb gz (Aa gz);have hB:=Below.trans hB (hb.mono hB.size);refine hK _ _ (fun _ h=>⟨Aj hb h.1 (Aa h.1),Aj hb h.2 (Aa h.2)⟩) ?_;clear hK K hb;refine Az rfl rfl rfl ?_;intro K hK;refine E7 _ _ rfl _ _ rfl rfl _ gz sz ?_;intro v7 g7 o7;refine hK _ _ (fun h=>by cases h) ?_;clear hK K;refine Bf ?_;go_wp2;rw[EK.out] at g7;exact bodyPost_ret (v:=.agg (BA ((a-b)%P255))) (results_cell_row rfl _ _ _ _ _ _ _ rfl g7 underlying22 rfl (by rw[Ah];exact Bo)) rfl
  ⟨rfl,Below.trans hB (Only.below (b:=w.heap.size+1+1) (B:=w.heap.size) o7 (by omega))⟩
def RowsAt(w:World)(b off:Nat)(ns:List Int):Prop:=∀k,k<ns.length→w.rangeAt b (off+k*32) (BA (ns.getD k 0)).toList
theorem C7{ops:Array Oper}{rest:List Oper}{o:Oper}{a:Act}{w:World}{Q:Exit→Act→World→Prop}(hgd:o.guard=none)(x:Operand)(ho:o.op=.load 22 x)(b off:Nat)(n:Int)(hx:a.eval x=.pointer (some ⟨b,off,none⟩))(hc:w.rangeAt b off (BA n).toList)(h:wpList prog ops Q rest (a.put o.dst (.agg (BA n))) w):wpList prog ops Q (o::rest) a w:=
 wpList_load_mid hgd 22 x ho b off hx _ _ hc underlying22 rfl (by rw[AcE,Ah];exact Bo) (by rw[Array.toArray_toList];exact h)
theorem ER{ops:Array Oper}{rest:List Oper}{o:Oper}{a:Act}{w:World}{Q:Exit→Act→World→Prop}(hgd:o.guard=none)(x:Operand)(ho:o.op=.load 142 x)(g:Nat)(v0 v1 v2 v3:Value)(hx:a.eval x=.pointer (some ⟨g,0,none⟩))(hg:w.heap[g]?=some (.cells #[v0,v1,v2,v3] 142 (0,0)))(h:wpList prog ops Q rest (a.put o.dst (.agg #[v0,v1,v2,v3])) w):wpList prog ops Q (o::rest) a w:=
 wpList_load_row hgd 142 x ho g hx 142 _ (0,0) _ hg underlying142 rfl (by kernel_rfl) h
theorem Wf(ns:List Int)(k:Nat)(h:k<ns.length):(ns.take (k+1)).sum=(ns.take k).sum+ns[k]:=by
 rw[List.take_succ_eq_append_getElem h,List.sum_append];simp
theorem Wg{ns:List Int}{k:Nat}{Z Q c n:Int}(hz:∃c:Int,Z=(ns.take k).sum+c*P255)(e:Q=Z+n+c*P255)(hs:(ns.take (k+1)).sum=(ns.take k).sum+n):∃c:Int,Q=(ns.take (k+1)).sum+c*P255:=by
 obtain⟨d,rfl⟩:=hz;exact⟨d+c,by rw[e,hs,Int.add_mul];omega⟩
theorem Wh{ns:List Int}{Z:Int}(hz:∃c:Int,Z=(ns.take ns.length).sum+c*P255):Z%P255=ns.sum%P255:=by
 obtain⟨d,rfl⟩:=hz;rw[List.take_length,Acy,AcQ]
def Abu(i:Nat):Nat:=[1,1].getD i 0
def Abv(i:Nat):Bool:=i != 4
theorem Wi(b off cap:Nat)(ns:List Int)(w:World)(hr:∀n∈ns,0≤n∧n<Bm)(hrows:RowsAt w b off ns)(hb:b<w.heap.size)(hlen:ns.length≤4611686018427387904):Calls prog 166 #[.slice (some ⟨b,off,none⟩) ns.length cap] w fun e w'=>e=.returned (.agg (BA (ns.sum%P255)))∧Below w.heap.size w w':=by
 have HR:=Hid.mk hr;have HW:=Hid.mk hrows;clear hr hrows;go_enter func166,ntmps166;go_wp2
 go_loopw [8] (fun i v=>∃k:Nat,k≤ns.length∧i=.int .i64 k∧∃z0 z1 z2 z3,U64 z0∧U64 z1∧U64 z2∧U64 z3∧(∃c:Int,V4 z0 z1 z2 z3=(ns.take k).sum+c*P255) ∧
   v.heap[w.heap.size+1]?=some (.cells #[.int .u64 z0,.int .u64 z1,.int .u64 z2,.int .u64 z3] 142 (0,0))∧(∃z:Array Value,v.heap[w.heap.size]?=some (.cells z 22 (0,0))∧z.size=32)∧Below w.heap.size w v)
  (fun i _=>ns.length-(intOf i).toNat)
 case atStart =>
  exact⟨0,Nat.zero_le _,rfl,0,0,0,0,Dl,Dl,Dl,Dl,⟨0,by simp[V4]⟩,heap_alloc2_new w _ _,⟨_,heap_alloc2_old w _ _,rfl⟩,by repeat first | exact Below.refl _ _ | refine Below.alloc ?_ (by simp<;>omega) _⟩
 case round =>
  obtain⟨k,hk,rfl,z0,z1,z2,z3,hz0,hz1,hz2,hz3,hz,gs,⟨z,gz,sz⟩,hB⟩:=hrel;have HZ:=Hid.mk hz;clear hz
  by_cases hlt:k<ns.length
  ·have hn:=HR.out _ (List.getElem_mem hlt)
   have hrow:wr.rangeAt b (off+k*32) (BA (ns.getD k 0)).toList:=fun j v hv=>(hB.cell hb).trans (HW.out k hlt j v hv)
   have hgd:ns.getD k 0=ns[k]:=by simp[hlt]
   rw[hgd] at hrow;have hsn:=Hid.mk (Wf ns k hlt);clear hgd;generalize ns[k]=n at *;have HROW:=Hid.mk hrow;clear hrow
   go_wp2_with (first|(refine C7 rfl _ rfl _ _ n rfl HROW.out ?_)|(refine BF rfl _ _ rfl _ n rfl rfl _ (heap_alloc_new wr _) rfl ?_;intro v1 g1 o1))
   have hsz:w.heap.size+1<wr.heap.size:=Aa gs;have gs1:=(o1.block _ (by omega)).trans ((Below.heap_alloc wr _ _ hsz).trans gs);have gz1:=(o1.block _ (by omega)).trans ((Below.heap_alloc wr _ _ (by omega)).trans gz);have hB1:Below w.heap.size w v1:=Below.trans (hB.alloc (by omega) _) (Only.below (b:=wr.heap.size) (B:=w.heap.size) o1 (by omega));clear o1 gs gz hB;generalize wr.heap.size=bw at *;refine Ay (fun v=>v.heap[w.heap.size+1]?=some (.cells #[.int .u64 z0,.int .u64 z1,.int .u64 z2,.int .u64 z3] 142 (0,0))∧v.heap[bw]?=some (.cells (BA n) 22 (0,0)))
    Abu Abv [0,1,2,3,4] rfl (by kernel_rfl) (fun _ _ d _ _ h=>by cases d<;>exact h) ⟨gs1,g1⟩ (fun HS=>?_)
   apply AN rfl rfl rfl HS
   focus exact fun v h=>Lr rfl _ _ _ _ _ rfl h.1
   simp only[Act.put,Aci,Acj,Ach];apply AN rfl rfl rfl HS
   focus exact fun v h=>Bj rfl _ _ rfl (Ah _) h.2
   simp only[Act.put,Aci,Acj,Ach];clear HS g1;refine Az rfl rfl rfl ?_;intro K hK
   go_simp
   refine(Ed n _).mono ?_;rintro e v2 ⟨rfl,hb2⟩;have gs2:=Aj hb2 gs1 (Aa gs1);have gz2:=Aj hb2 gz1 (Aa gz1);have hB2:=Below.trans (Below.drew hB1) (hb2.mono hB1.size);refine hK _ _ (fun _ h=>⟨Aj hb2 h.1 (Aa h.1),Aj hb2 h.2 (Aa h.2)⟩) ?_;clear hK K hb2 gs1 gz1 hB1;refine Az rfl rfl rfl ?_;intro K hK
   go_simp
   refine(Ow _ _ _ _ _ _ _ _ _ hz0 hz1 hz2 hz3 (AR _ _) (AR _ _) (AR _ _) (AR _ _)).mono ?_;rintro e v3 ⟨q0,q1,q2,q3,hq0,hq1,hq2,hq3,⟨c,ec⟩,rfl,hb3⟩;rw[DW hn.1 hn.2] at ec;have EC:=Hid.mk ec;clear ec;have gs3:=Aj hb3 gs2 (Aa gs2);have gz3:=Aj hb3 gz2 (Aa gz2);have hB3:=Below.trans hB2 (hb3.mono hB2.size);refine hK _ _ (fun _ h=>⟨Aj hb3 h.1 (Aa h.1),Aj hb3 h.2 (Aa h.2)⟩) ?_;clear hK K hb3 gs2 gz2 hB2;refine Az rfl rfl rfl ?_;intro K hK;refine MT _ _ rfl _ _ _ _ _ rfl rfl _ _ _ _ gs3 ?_;intro v4 g4 o4;refine hK _ _ (fun h=>by cases h) ?_;clear hK K;refine Bf ?_;have gz4:=(o4.block _ (by omega)).trans gz3;have hB4:Below w.heap.size w v4:=Below.trans hB3 (Only.below (b:=w.heap.size+1) (B:=w.heap.size) o4 (by omega));clear o4 gs3 gz3 hB3;go_wp2
   go_roundw
   case rel=>exact⟨k+1,by omega,by go_num,q0,q1,q2,q3,hq0,hq1,hq2,hq3,Wg HZ.out EC.out hsn.out,g4,⟨z,gz4,sz⟩,hB4⟩
   case measure=>simp[intOf];omega
  ·have hk2:k=ns.length:=by omega
   subst hk2
   go_wp2_with (refine ER rfl _ rfl _ _ _ _ _ rfl gs ?_)
   refine(D5 _ _ _ _ _ hz0 hz1 hz2 hz3).mono ?_;rintro e v2 ⟨rfl,hb2⟩;have gz2:=Aj hb2 gz (Aa gz);have hB2:=Below.trans hB (hb2.mono hB.size);clear hb2
   go_wp2_with (refine BF rfl _ _ rfl _ _ rfl rfl _ gz2 sz ?_;intro v3 g3 o3)
   rw[Wh HZ.out] at g3;exact bodyPost_ret (v:=.agg (BA (ns.sum%P255))) (results_cell_row rfl _ _ _ _ _ _ _ rfl g3 underlying22 rfl (by rw[Ah];exact Bo)) rfl
    ⟨rfl,Below.trans hB2 (Only.below (b:=w.heap.size) (B:=w.heap.size) o3 (by omega))⟩
def Prod4(a b x y lo hi:Int):Prop:=U64 lo∧U64 hi∧lo+18446744073709551616*hi=a+b+x*y
theorem Prod4.lo{a b x y lo hi:Int}(h:Prod4 a b x y lo hi):U64 lo:=h.1
theorem Prod4.hi{a b x y lo hi:Int}(h:Prod4 a b x y lo hi):U64 hi:=h.2.1
theorem TD{x y:Int}(hx:U64 x)(hy:U64 y):0≤x*y∧x*y≤340282366920938463426481119284349108225:=by
 unfold U64 at hx hy;refine⟨Int.mul_nonneg hx.1 hy.1,?_⟩;have:=Int.mul_le_mul (show x≤18446744073709551615 by omega) (show y≤18446744073709551615 by omega) hy.1 (by omega);omega
theorem A4{a b x y:Int}(ha:U64 a)(hb:U64 b)(hx:U64 x)(hy:U64 y):∃lo hi,Prod4 a b x y lo hi∧∀w, Calls prog 168 #[.int .u64 a,.int .u64 b,.int .u64 x,.int .u64 y] w fun e w'=>e=.returned (.tuple #[.int .u64 lo,.int .u64 hi])∧w'=w:=by
 have hm:=TD hx hy;have hH:U64 (x*y/18446744073709551616):=by unfold U64;omega
 have hL:U64 (x*y%18446744073709551616):=by unfold U64;omega
 obtain⟨l1,c1,s1,r1⟩:=Dj hL ha bit0;obtain⟨l2,c2,s2,r2⟩:=Dj s1.lo hb bit0;have M:=Hid.mk (fun w=>SP x y w hx hy)
 have hi:Prod4 a b x y l2 (x*y/18446744073709551616+c1+c2):=by
  unfold Sum3 U64 Bit at *;unfold Prod4 U64;generalize x*y=z at *;omega
 have w1:IntKind.u64.wrap (x*y/18446744073709551616+c1)=x*y/18446744073709551616+c1:=by
  rw[IntKind.wrap_u64];unfold Prod4 Sum3 U64 Bit at *;generalize x*y=z at *;omega
 have w2:IntKind.u64.wrap (x*y/18446744073709551616+c1+c2)=x*y/18446744073709551616+c1+c2:=by
  rw[IntKind.wrap_u64];unfold Prod4 Sum3 U64 Bit at *;generalize x*y=z at *;omega
 refine⟨l2,_,hi,fun w=>?_⟩;clear hi hm hH hL s1 s2;generalize x*y/18446744073709551616=h at *;generalize x*y%18446744073709551616=l at *;go_enter func168,ntmps168
 go_wp2_with (go_at_call 195;refine(M.out _).mono ?_;rintro e w' ⟨rfl,rfl⟩)
 go_ret2
 exact⟨rfl,rfl⟩
theorem Wj:IntKind.i64.wrap 1=1:=by decide +kernel
theorem Wk:IntKind.i64.wrap 2=2:=by decide +kernel
theorem Wl:IntKind.i64.wrap 3=3:=by decide +kernel
theorem Wm:IntKind.i64.wrap 4=4:=by decide +kernel
theorem Wn:IntKind.i64.wrap 5=5:=by decide +kernel
theorem Wo:IntKind.i64.wrap 6=6:=by decide +kernel
theorem Wp:IntKind.i64.wrap 7=7:=by decide +kernel
attribute [local go_sem] Vi Wj Wk Wl Wm Wn Wo Wp
theorem Aaq(x a b c d:Int):x*V4 a b c d=V4 (x*a) (x*b) (x*c) (x*d):=by unfold V4;grind
theorem Aar(x a b c d:Int):V4 a b c d*x=V4 (a*x) (b*x) (c*x) (d*x):=by unfold V4;grind
theorem K2{x y0 y1 y2 y3 w0 w1 w2 w3 p0 p1 p2 p3 c0 c1 c2 c3:Int}(s0:Prod4 w0 0 x y0 p0 c0)(s1:Prod4 w1 c0 x y1 p1 c1)(s2:Prod4 w2 c1 x y2 p2 c2)(s3:Prod4 w3 c2 x y3 p3 c3):V4 p0 p1 p2 p3+Bm*c3=V4 w0 w1 w2 w3+x*V4 y0 y1 y2 y3:=by
 rw[Aaq];unfold Prod4 at s0 s1 s2 s3;unfold V4 Bm;omega
theorem TE{X0 X1 X2 X3 Y p00 p01 p02 p03 c03 p10 p11 p12 p13 c13 p20 p21 p22 p23 c23 p30 p31 p32 p33 c33:Int}(r0:V4 p00 p01 p02 p03+Bm*c03=V4 0 0 0 0+X0*Y)(r1:V4 p10 p11 p12 p13+Bm*c13=V4 p01 p02 p03 c03+X1*Y)(r2:V4 p20 p21 p22 p23+Bm*c23=V4 p11 p12 p13 c13+X2*Y)(r3:V4 p30 p31 p32 p33+Bm*c33=V4 p21 p22 p23 c23+X3*Y):V4 p00 p10 p20 p30+Bm*V4 p31 p32 p33 c33=V4 X0 X1 X2 X3*Y:=by
 rw[Aar];generalize X0*Y=a0 at *;generalize X1*Y=a1 at *;generalize X2*Y=a2 at *;generalize X3*Y=a3 at *;unfold V4 Bm at *;omega
theorem YJ{a0 a1 a2 a3 b0 b1 b2 b3 l0 l1 l2 l3 d0 d1 d2 d3:Int}(s0:Prod4 a0 0 b0 38 l0 d0)(s1:Prod4 a1 d0 b1 38 l1 d1)(s2:Prod4 a2 d1 b2 38 l2 d2)(s3:Prod4 a3 d2 b3 38 l3 d3):V4 l0 l1 l2 l3+Bm*d3=V4 a0 a1 a2 a3+38*V4 b0 b1 b2 b3:=by
 unfold Prod4 at s0 s1 s2 s3;unfold V4 Bm;omega
theorem Wq{L A B d:Int}(hL:0≤L∧L<Bm)(hA:0≤A∧A<Bm)(hB:0≤B∧B<Bm)(e:L+Bm*d=A+38*B):0≤d∧d≤38:=by
 unfold Bm at *;omega
theorem TF{Z L A B d XY k:Int}(e1:A+Bm*B=XY)(e2:L+Bm*d=A+38*B)(e3:Z=L+Bm*d+k*P255):Z=XY+(k-2*B)*P255:=by
 unfold Bm P255 at *;omega
theorem NQ:U64 38:=by unfold U64;omega
def tF9(i:Nat):Nat:=[2,2,2,2,2,2,2,1,2,2,2,1,2,2,1,0,2,2,2,2,0,2].getD i 2
def tT9(i:Nat):Bool:=i != 20
def YK(i:Nat):Nat:=[2,2,2,1,2,2,2,2,1,0,2,2,2,2,0,2].getD i 2
def YM(i:Nat):Bool:=i != 14
theorem Wr(w:World)(A B C D E:Obj):(((((w.alloc A).alloc B).alloc C).alloc D).alloc E).heap[w.heap.size+1+1]?=some C:=by
 rw[Below.heap_alloc _ _ _ (by simp<;>omega),Below.heap_alloc _ _ _ (by simp<;>omega)];exact AK w A B C
theorem JB(x0 x1 x2 x3 y0 y1 y2 y3:Int)(w:World)(h0:U64 x0)(h1:U64 x1)(h2:U64 x2)(h3:U64 x3)(k0:U64 y0)(k1:U64 y1)(k2:U64 y2)(k3:U64 y3):Calls prog 136 #[.agg #[.int .u64 x0,.int .u64 x1,.int .u64 x2,.int .u64 x3],.agg #[.int .u64 y0,.int .u64 y1,.int .u64 y2,.int .u64 y3]] w fun e w' => ∃z0 z1 z2 z3,U64 z0∧U64 z1∧U64 z2∧U64 z3∧(∃k:Int,V4 z0 z1 z2 z3=V4 x0 x1 x2 x3*V4 y0 y1 y2 y3+k*P255) ∧ e=.returned (.agg #[.int .u64 z0,.int .u64 z1,.int .u64 z2,.int .u64 z3])∧Below w.heap.size w w':=by
 obtain⟨p00,c00,s00,r00⟩:=A4 Dl Dl h0 k0;have R00:=Hid.mk r00;clear r00;obtain⟨p01,c01,s01,r01⟩:=A4 Dl s00.hi h0 k1;have R01:=Hid.mk r01;clear r01;obtain⟨p02,c02,s02,r02⟩:=A4 Dl s01.hi h0 k2;have R02:=Hid.mk r02;clear r02;obtain⟨p03,c03,s03,r03⟩:=A4 Dl s02.hi h0 k3;have R03:=Hid.mk r03;clear r03;obtain⟨p10,c10,s10,r10⟩:=A4 s01.lo Dl h1 k0;have R10:=Hid.mk r10;clear r10;obtain⟨p11,c11,s11,r11⟩:=A4 s02.lo s10.hi h1 k1;have R11:=Hid.mk r11;clear r11;obtain⟨p12,c12,s12,r12⟩:=A4 s03.lo s11.hi h1 k2;have R12:=Hid.mk r12;clear r12;obtain⟨p13,c13,s13,r13⟩:=A4 s03.hi s12.hi h1 k3;have R13:=Hid.mk r13;clear r13;obtain⟨p20,c20,s20,r20⟩:=A4 s11.lo Dl h2 k0;have R20:=Hid.mk r20;clear r20;obtain⟨p21,c21,s21,r21⟩:=A4 s12.lo s20.hi h2 k1;have R21:=Hid.mk r21;clear r21;obtain⟨p22,c22,s22,r22⟩:=A4 s13.lo s21.hi h2 k2;have R22:=Hid.mk r22;clear r22;obtain⟨p23,c23,s23,r23⟩:=A4 s13.hi s22.hi h2 k3;have R23:=Hid.mk r23;clear r23;obtain⟨p30,c30,s30,r30⟩:=A4 s21.lo Dl h3 k0;have R30:=Hid.mk r30;clear r30;obtain⟨p31,c31,s31,r31⟩:=A4 s22.lo s30.hi h3 k1;have R31:=Hid.mk r31;clear r31;obtain⟨p32,c32,s32,r32⟩:=A4 s23.lo s31.hi h3 k2;have R32:=Hid.mk r32;clear r32;obtain⟨p33,c33,s33,r33⟩:=A4 s23.hi s32.hi h3 k3;have R33:=Hid.mk r33;clear r33;obtain⟨l0,d0,t0,q0⟩:=A4 s00.lo Dl s31.lo NQ;have T0:=Hid.mk q0;clear q0;obtain⟨l1,d1,t1,q1⟩:=A4 s10.lo t0.hi s32.lo NQ;have T1:=Hid.mk q1;clear q1;obtain⟨l2,d2,t2,q2⟩:=A4 s20.lo t1.hi s33.lo NQ;have T2:=Hid.mk q2;clear q2;obtain⟨l3,d3,t3,q3⟩:=A4 s30.lo t2.hi s33.hi NQ;have T3:=Hid.mk q3;clear q3;have e1:=TE (K2 s00 s01 s02 s03) (K2 s10 s11 s12 s13) (K2 s20 s21 s22 s23) (K2 s30 s31 s32 s33);have e2:=YJ t0 t1 t2 t3;have hc:=Wq (DE t0.lo t1.lo t2.lo t3.lo) (DE s00.lo s10.lo s20.lo s30.lo) (DE s31.lo s32.lo s33.lo s33.hi) e2;have hc0:=hc.1;have hc1:=hc.2;have E1:=Hid.mk e1;have E2:=Hid.mk e2;clear e1 e2 hc;go_enter func136,ntmps136;go_wp2;refine wp_loop_rounds 5 ?_;rw[rounds_succ];go_wp2;refine wp_loop_rounds 5 ?_;rw[rounds_succ];go_wp2;refine Ay (fun w'=>w'.cell? ⟨w.heap.size+1+1+1,0,none⟩=some (.int .u64 0)∧w'.cell? ⟨w.heap.size,0,none⟩=some (.int .u64 x0)∧w'.cell? ⟨w.heap.size+1,0,none⟩=some (.int .u64 y0))
  tF9 tT9 [0,1,2,3,4,5,6,7,8,9,10,11,12,13,14,15,16,17,18,19,20,21] rfl (by kernel_rfl) (fun _ _ d _ _ h=>by cases d<;>exact h) (by refine⟨?_,?_,?_⟩<;>go_simp) (fun HS=>?_)
 iterate 15
  first
   | (apply Au rfl rfl rfl;focus(intro wq;go_simp;first | done | with_reducible rfl))
   | (apply AN rfl rfl rfl HS;focus(intro wq hq;go_simp;first | done | with_reducible rfl))
  simp only[Act.put,Aci,Acj,Ach]
 refine Az rfl rfl rfl ?_;intro K hK
 go_simp
 refine(R00.out _).mono ?_;rintro e w' ⟨rfl,rfl⟩;refine hK _ _ (fun _ h=>h) ?_;clear hK K HS
 iterate 4
  apply Au rfl rfl rfl
  focus(intro wq;go_simp;first | done | with_reducible rfl)
  simp only[Act.put,Aci,Acj,Ach]
 refine Az rfl rfl rfl ?_;intro K hK
 go_simp
 refine hK _ _ (fun h=>by cases h) ?_;clear hK K;apply Au rfl rfl rfl
 focus(intro wq;go_simp;first | done | with_reducible rfl)
 simp only[Act.put,Aci,Acj,Ach];refine Bf ?_;go_wp2;rw[rounds_succ];go_wp2;refine Ay (fun w'=>w'.cell? ⟨w.heap.size+1+1+1,1,none⟩=some (.int .u64 0)∧w'.cell? ⟨w.heap.size,0,none⟩=some (.int .u64 x0)∧w'.cell? ⟨w.heap.size+1,1,none⟩=some (.int .u64 y1))
  tF9 tT9 [0,1,2,3,4,5,6,7,8,9,10,11,12,13,14,15,16,17,18,19,20,21] rfl (by kernel_rfl) (fun _ _ d _ _ h=>by cases d<;>exact h) (by refine⟨?_,?_,?_⟩<;>go_simp) (fun HS=>?_)
 iterate 15
  first
   | (apply Au rfl rfl rfl;focus(intro wq;go_simp;first | done | with_reducible rfl))
   | (apply AN rfl rfl rfl HS;focus(intro wq hq;go_simp;first | done | with_reducible rfl))
  simp only[Act.put,Aci,Acj,Ach]
 refine Az rfl rfl rfl ?_;intro K hK
 go_simp
 refine(R01.out _).mono ?_;rintro e w' ⟨rfl,rfl⟩;refine hK _ _ (fun _ h=>h) ?_;clear hK K HS
 iterate 4
  apply Au rfl rfl rfl
  focus(intro wq;go_simp;first | done | with_reducible rfl)
  simp only[Act.put,Aci,Acj,Ach]
 refine Az rfl rfl rfl ?_;intro K hK
 go_simp
 refine hK _ _ (fun h=>by cases h) ?_;clear hK K;apply Au rfl rfl rfl
 focus(intro wq;go_simp;first | done | with_reducible rfl)
 simp only[Act.put,Aci,Acj,Ach];refine Bf ?_;go_wp2;rw[rounds_succ];go_wp2;refine Ay (fun w'=>w'.cell? ⟨w.heap.size+1+1+1,2,none⟩=some (.int .u64 0)∧w'.cell? ⟨w.heap.size,0,none⟩=some (.int .u64 x0)∧w'.cell? ⟨w.heap.size+1,2,none⟩=some (.int .u64 y2))
  tF9 tT9 [0,1,2,3,4,5,6,7,8,9,10,11,12,13,14,15,16,17,18,19,20,21] rfl (by kernel_rfl) (fun _ _ d _ _ h=>by cases d<;>exact h) (by refine⟨?_,?_,?_⟩<;>go_simp) (fun HS=>?_)
 iterate 15
  first
   | (apply Au rfl rfl rfl;focus(intro wq;go_simp;first | done | with_reducible rfl))
   | (apply AN rfl rfl rfl HS;focus(intro wq hq;go_simp;first | done | with_reducible rfl))
  simp only[Act.put,Aci,Acj,Ach]
 refine Az rfl rfl rfl ?_;intro K hK
 go_simp
 refine(R02.out _).mono ?_;rintro e w' ⟨rfl,rfl⟩;refine hK _ _ (fun _ h=>h) ?_;clear hK K HS
 iterate 4
  apply Au rfl rfl rfl
  focus(intro wq;go_simp;first | done | with_reducible rfl)
  simp only[Act.put,Aci,Acj,Ach]
 refine Az rfl rfl rfl ?_;intro K hK
 go_simp
 refine hK _ _ (fun h=>by cases h) ?_;clear hK K;apply Au rfl rfl rfl
 focus(intro wq;go_simp;first | done | with_reducible rfl)
 simp only[Act.put,Aci,Acj,Ach];refine Bf ?_;go_wp2;rw[rounds_succ];go_wp2;refine Ay (fun w'=>w'.cell? ⟨w.heap.size+1+1+1,3,none⟩=some (.int .u64 0)∧w'.cell? ⟨w.heap.size,0,none⟩=some (.int .u64 x0)∧w'.cell? ⟨w.heap.size+1,3,none⟩=some (.int .u64 y3))
  tF9 tT9 [0,1,2,3,4,5,6,7,8,9,10,11,12,13,14,15,16,17,18,19,20,21] rfl (by kernel_rfl) (fun _ _ d _ _ h=>by cases d<;>exact h) (by refine⟨?_,?_,?_⟩<;>go_simp) (fun HS=>?_)
 iterate 15
  first
   | (apply Au rfl rfl rfl;focus(intro wq;go_simp;first | done | with_reducible rfl))
   | (apply AN rfl rfl rfl HS;focus(intro wq hq;go_simp;first | done | with_reducible rfl))
  simp only[Act.put,Aci,Acj,Ach]
 refine Az rfl rfl rfl ?_;intro K hK
 go_simp
 refine(R03.out _).mono ?_;rintro e w' ⟨rfl,rfl⟩;refine hK _ _ (fun _ h=>h) ?_;clear hK K HS
 iterate 4
  apply Au rfl rfl rfl
  focus(intro wq;go_simp;first | done | with_reducible rfl)
  simp only[Act.put,Aci,Acj,Ach]
 refine Az rfl rfl rfl ?_;intro K hK
 go_simp
 refine hK _ _ (fun h=>by cases h) ?_;clear hK K;apply Au rfl rfl rfl
 focus(intro wq;go_simp;first | done | with_reducible rfl)
 simp only[Act.put,Aci,Acj,Ach];refine Bf ?_;go_wp2;rw[rounds_succ];go_wp2;rw[rounds_succ];go_wp2;refine wp_loop_rounds 5 ?_;rw[rounds_succ];go_wp2;refine Ay (fun w'=>w'.cell? ⟨w.heap.size+1+1+1,1,none⟩=some (.int .u64 p01)∧w'.cell? ⟨w.heap.size,1,none⟩=some (.int .u64 x1)∧w'.cell? ⟨w.heap.size+1,0,none⟩=some (.int .u64 y0))
  tF9 tT9 [0,1,2,3,4,5,6,7,8,9,10,11,12,13,14,15,16,17,18,19,20,21] rfl (by kernel_rfl) (fun _ _ d _ _ h=>by cases d<;>exact h) (by refine⟨?_,?_,?_⟩<;>go_simp) (fun HS=>?_)
 iterate 15
  first
   | (apply Au rfl rfl rfl;focus(intro wq;go_simp;first | done | with_reducible rfl))
   | (apply AN rfl rfl rfl HS;focus(intro wq hq;go_simp;first | done | with_reducible rfl))
  simp only[Act.put,Aci,Acj,Ach]
 refine Az rfl rfl rfl ?_;intro K hK
 go_simp
 refine(R10.out _).mono ?_;rintro e w' ⟨rfl,rfl⟩;refine hK _ _ (fun _ h=>h) ?_;clear hK K HS
 iterate 4
  apply Au rfl rfl rfl
  focus(intro wq;go_simp;first | done | with_reducible rfl)
  simp only[Act.put,Aci,Acj,Ach]
 refine Az rfl rfl rfl ?_;intro K hK
 go_simp
 refine hK _ _ (fun h=>by cases h) ?_;clear hK K;apply Au rfl rfl rfl
 focus(intro wq;go_simp;first | done | with_reducible rfl)
 simp only[Act.put,Aci,Acj,Ach];refine Bf ?_;go_wp2;rw[rounds_succ];go_wp2;refine Ay (fun w'=>w'.cell? ⟨w.heap.size+1+1+1,2,none⟩=some (.int .u64 p02)∧w'.cell? ⟨w.heap.size,1,none⟩=some (.int .u64 x1)∧w'.cell? ⟨w.heap.size+1,1,none⟩=some (.int .u64 y1))
  tF9 tT9 [0,1,2,3,4,5,6,7,8,9,10,11,12,13,14,15,16,17,18,19,20,21] rfl (by kernel_rfl) (fun _ _ d _ _ h=>by cases d<;>exact h) (by refine⟨?_,?_,?_⟩<;>go_simp) (fun HS=>?_)
 iterate 15
  first
   | (apply Au rfl rfl rfl;focus(intro wq;go_simp;first | done | with_reducible rfl))
   | (apply AN rfl rfl rfl HS;focus(intro wq hq;go_simp;first | done | with_reducible rfl))
  simp only[Act.put,Aci,Acj,Ach]
 refine Az rfl rfl rfl ?_;intro K hK
 go_simp
 refine(R11.out _).mono ?_;rintro e w' ⟨rfl,rfl⟩;refine hK _ _ (fun _ h=>h) ?_;clear hK K HS
 iterate 4
  apply Au rfl rfl rfl
  focus(intro wq;go_simp;first | done | with_reducible rfl)
  simp only[Act.put,Aci,Acj,Ach]
 refine Az rfl rfl rfl ?_;intro K hK
 go_simp
 refine hK _ _ (fun h=>by cases h) ?_;clear hK K;apply Au rfl rfl rfl
 focus(intro wq;go_simp;first | done | with_reducible rfl)
 simp only[Act.put,Aci,Acj,Ach];refine Bf ?_;go_wp2;rw[rounds_succ];go_wp2;refine Ay (fun w'=>w'.cell? ⟨w.heap.size+1+1+1,3,none⟩=some (.int .u64 p03)∧w'.cell? ⟨w.heap.size,1,none⟩=some (.int .u64 x1)∧w'.cell? ⟨w.heap.size+1,2,none⟩=some (.int .u64 y2))
  tF9 tT9 [0,1,2,3,4,5,6,7,8,9,10,11,12,13,14,15,16,17,18,19,20,21] rfl (by kernel_rfl) (fun _ _ d _ _ h=>by cases d<;>exact h) (by refine⟨?_,?_,?_⟩<;>go_simp) (fun HS=>?_)
 iterate 15
  first
   | (apply Au rfl rfl rfl;focus(intro wq;go_simp;first | done | with_reducible rfl))
   | (apply AN rfl rfl rfl HS;focus(intro wq hq;go_simp;first | done | with_reducible rfl))
  simp only[Act.put,Aci,Acj,Ach]
 refine Az rfl rfl rfl ?_;intro K hK
 go_simp
 refine(R12.out _).mono ?_;rintro e w' ⟨rfl,rfl⟩;refine hK _ _ (fun _ h=>h) ?_;clear hK K HS
 iterate 4
  apply Au rfl rfl rfl
  focus(intro wq;go_simp;first | done | with_reducible rfl)
  simp only[Act.put,Aci,Acj,Ach]
 refine Az rfl rfl rfl ?_;intro K hK
 go_simp
 refine hK _ _ (fun h=>by cases h) ?_;clear hK K;apply Au rfl rfl rfl
 focus(intro wq;go_simp;first | done | with_reducible rfl)
 simp only[Act.put,Aci,Acj,Ach];refine Bf ?_;go_wp2;rw[rounds_succ];go_wp2;refine Ay (fun w'=>w'.cell? ⟨w.heap.size+1+1+1,4,none⟩=some (.int .u64 c03)∧w'.cell? ⟨w.heap.size,1,none⟩=some (.int .u64 x1)∧w'.cell? ⟨w.heap.size+1,3,none⟩=some (.int .u64 y3))
  tF9 tT9 [0,1,2,3,4,5,6,7,8,9,10,11,12,13,14,15,16,17,18,19,20,21] rfl (by kernel_rfl) (fun _ _ d _ _ h=>by cases d<;>exact h) (by refine⟨?_,?_,?_⟩<;>go_simp) (fun HS=>?_)
 iterate 15
  first
   | (apply Au rfl rfl rfl;focus(intro wq;go_simp;first | done | with_reducible rfl))
   | (apply AN rfl rfl rfl HS;focus(intro wq hq;go_simp;first | done | with_reducible rfl))
  simp only[Act.put,Aci,Acj,Ach]
 refine Az rfl rfl rfl ?_;intro K hK
 go_simp
 refine(R13.out _).mono ?_;rintro e w' ⟨rfl,rfl⟩;refine hK _ _ (fun _ h=>h) ?_;clear hK K HS
 iterate 4
  apply Au rfl rfl rfl
  focus(intro wq;go_simp;first | done | with_reducible rfl)
  simp only[Act.put,Aci,Acj,Ach]
 refine Az rfl rfl rfl ?_;intro K hK
 go_simp
 refine hK _ _ (fun h=>by cases h) ?_;clear hK K;apply Au rfl rfl rfl
 focus(intro wq;go_simp;first | done | with_reducible rfl)
 simp only[Act.put,Aci,Acj,Ach];refine Bf ?_;go_wp2;rw[rounds_succ];go_wp2;rw[rounds_succ];go_wp2;refine wp_loop_rounds 5 ?_;rw[rounds_succ];go_wp2;refine Ay (fun w'=>w'.cell? ⟨w.heap.size+1+1+1,2,none⟩=some (.int .u64 p11)∧w'.cell? ⟨w.heap.size,2,none⟩=some (.int .u64 x2)∧w'.cell? ⟨w.heap.size+1,0,none⟩=some (.int .u64 y0))
  tF9 tT9 [0,1,2,3,4,5,6,7,8,9,10,11,12,13,14,15,16,17,18,19,20,21] rfl (by kernel_rfl) (fun _ _ d _ _ h=>by cases d<;>exact h) (by refine⟨?_,?_,?_⟩<;>go_simp) (fun HS=>?_)
 iterate 15
  first
   | (apply Au rfl rfl rfl;focus(intro wq;go_simp;first | done | with_reducible rfl))
   | (apply AN rfl rfl rfl HS;focus(intro wq hq;go_simp;first | done | with_reducible rfl))
  simp only[Act.put,Aci,Acj,Ach]
 refine Az rfl rfl rfl ?_;intro K hK
 go_simp
 refine(R20.out _).mono ?_;rintro e w' ⟨rfl,rfl⟩;refine hK _ _ (fun _ h=>h) ?_;clear hK K HS
 iterate 4
  apply Au rfl rfl rfl
  focus(intro wq;go_simp;first | done | with_reducible rfl)
  simp only[Act.put,Aci,Acj,Ach]
 refine Az rfl rfl rfl ?_;intro K hK
 go_simp
 refine hK _ _ (fun h=>by cases h) ?_;clear hK K;apply Au rfl rfl rfl
 focus(intro wq;go_simp;first | done | with_reducible rfl)
 simp only[Act.put,Aci,Acj,Ach];refine Bf ?_;go_wp2;rw[rounds_succ];go_wp2;refine Ay (fun w'=>w'.cell? ⟨w.heap.size+1+1+1,3,none⟩=some (.int .u64 p12)∧w'.cell? ⟨w.heap.size,2,none⟩=some (.int .u64 x2)∧w'.cell? ⟨w.heap.size+1,1,none⟩=some (.int .u64 y1))
  tF9 tT9 [0,1,2,3,4,5,6,7,8,9,10,11,12,13,14,15,16,17,18,19,20,21] rfl (by kernel_rfl) (fun _ _ d _ _ h=>by cases d<;>exact h) (by refine⟨?_,?_,?_⟩<;>go_simp) (fun HS=>?_)
 iterate 15
  first
   | (apply Au rfl rfl rfl;focus(intro wq;go_simp;first | done | with_reducible rfl))
   | (apply AN rfl rfl rfl HS;focus(intro wq hq;go_simp;first | done | with_reducible rfl))
  simp only[Act.put,Aci,Acj,Ach]
 refine Az rfl rfl rfl ?_;intro K hK
 go_simp
 refine(R21.out _).mono ?_;rintro e w' ⟨rfl,rfl⟩;refine hK _ _ (fun _ h=>h) ?_;clear hK K HS
 iterate 4
  apply Au rfl rfl rfl
  focus(intro wq;go_simp;first | done | with_reducible rfl)
  simp only[Act.put,Aci,Acj,Ach]
 refine Az rfl rfl rfl ?_;intro K hK
 go_simp
 refine hK _ _ (fun h=>by cases h) ?_;clear hK K;apply Au rfl rfl rfl
 focus(intro wq;go_simp;first | done | with_reducible rfl)
 simp only[Act.put,Aci,Acj,Ach];refine Bf ?_;go_wp2;rw[rounds_succ];go_wp2;refine Ay (fun w'=>w'.cell? ⟨w.heap.size+1+1+1,4,none⟩=some (.int .u64 p13)∧w'.cell? ⟨w.heap.size,2,none⟩=some (.int .u64 x2)∧w'.cell? ⟨w.heap.size+1,2,none⟩=some (.int .u64 y2))
  tF9 tT9 [0,1,2,3,4,5,6,7,8,9,10,11,12,13,14,15,16,17,18,19,20,21] rfl (by kernel_rfl) (fun _ _ d _ _ h=>by cases d<;>exact h) (by refine⟨?_,?_,?_⟩<;>go_simp) (fun HS=>?_)
 iterate 15
  first
   | (apply Au rfl rfl rfl;focus(intro wq;go_simp;first | done | with_reducible rfl))
   | (apply AN rfl rfl rfl HS;focus(intro wq hq;go_simp;first | done | with_reducible rfl))
  simp only[Act.put,Aci,Acj,Ach]
 refine Az rfl rfl rfl ?_;intro K hK
 go_simp
 refine(R22.out _).mono ?_;rintro e w' ⟨rfl,rfl⟩;refine hK _ _ (fun _ h=>h) ?_;clear hK K HS
 iterate 4
  apply Au rfl rfl rfl
  focus(intro wq;go_simp;first | done | with_reducible rfl)
  simp only[Act.put,Aci,Acj,Ach]
 refine Az rfl rfl rfl ?_;intro K hK
 go_simp
 refine hK _ _ (fun h=>by cases h) ?_;clear hK K;apply Au rfl rfl rfl
 focus(intro wq;go_simp;first | done | with_reducible rfl)
 simp only[Act.put,Aci,Acj,Ach];refine Bf ?_;go_wp2;rw[rounds_succ];go_wp2;refine Ay (fun w'=>w'.cell? ⟨w.heap.size+1+1+1,5,none⟩=some (.int .u64 c13)∧w'.cell? ⟨w.heap.size,2,none⟩=some (.int .u64 x2)∧w'.cell? ⟨w.heap.size+1,3,none⟩=some (.int .u64 y3))
  tF9 tT9 [0,1,2,3,4,5,6,7,8,9,10,11,12,13,14,15,16,17,18,19,20,21] rfl (by kernel_rfl) (fun _ _ d _ _ h=>by cases d<;>exact h) (by refine⟨?_,?_,?_⟩<;>go_simp) (fun HS=>?_)
 iterate 15
  first
   | (apply Au rfl rfl rfl;focus(intro wq;go_simp;first | done | with_reducible rfl))
   | (apply AN rfl rfl rfl HS;focus(intro wq hq;go_simp;first | done | with_reducible rfl))
  simp only[Act.put,Aci,Acj,Ach]
 refine Az rfl rfl rfl ?_;intro K hK
 go_simp
 refine(R23.out _).mono ?_;rintro e w' ⟨rfl,rfl⟩;refine hK _ _ (fun _ h=>h) ?_;clear hK K HS
 iterate 4
  apply Au rfl rfl rfl
  focus(intro wq;go_simp;first | done | with_reducible rfl)
  simp only[Act.put,Aci,Acj,Ach]
 refine Az rfl rfl rfl ?_;intro K hK
 go_simp
 refine hK _ _ (fun h=>by cases h) ?_;clear hK K;apply Au rfl rfl rfl
 focus(intro wq;go_simp;first | done | with_reducible rfl)
 simp only[Act.put,Aci,Acj,Ach];refine Bf ?_;go_wp2;rw[rounds_succ];go_wp2;rw[rounds_succ];go_wp2;refine wp_loop_rounds 5 ?_;rw[rounds_succ];go_wp2;refine Ay (fun w'=>w'.cell? ⟨w.heap.size+1+1+1,3,none⟩=some (.int .u64 p21)∧w'.cell? ⟨w.heap.size,3,none⟩=some (.int .u64 x3)∧w'.cell? ⟨w.heap.size+1,0,none⟩=some (.int .u64 y0))
  tF9 tT9 [0,1,2,3,4,5,6,7,8,9,10,11,12,13,14,15,16,17,18,19,20,21] rfl (by kernel_rfl) (fun _ _ d _ _ h=>by cases d<;>exact h) (by refine⟨?_,?_,?_⟩<;>go_simp) (fun HS=>?_)
 iterate 15
  first
   | (apply Au rfl rfl rfl;focus(intro wq;go_simp;first | done | with_reducible rfl))
   | (apply AN rfl rfl rfl HS;focus(intro wq hq;go_simp;first | done | with_reducible rfl))
  simp only[Act.put,Aci,Acj,Ach]
 refine Az rfl rfl rfl ?_;intro K hK
 go_simp
 refine(R30.out _).mono ?_;rintro e w' ⟨rfl,rfl⟩;refine hK _ _ (fun _ h=>h) ?_;clear hK K HS
 iterate 4
  apply Au rfl rfl rfl
  focus(intro wq;go_simp;first | done | with_reducible rfl)
  simp only[Act.put,Aci,Acj,Ach]
 refine Az rfl rfl rfl ?_;intro K hK
 go_simp
 refine hK _ _ (fun h=>by cases h) ?_;clear hK K;apply Au rfl rfl rfl
 focus(intro wq;go_simp;first | done | with_reducible rfl)
 simp only[Act.put,Aci,Acj,Ach];refine Bf ?_;go_wp2;rw[rounds_succ];go_wp2;refine Ay (fun w'=>w'.cell? ⟨w.heap.size+1+1+1,4,none⟩=some (.int .u64 p22)∧w'.cell? ⟨w.heap.size,3,none⟩=some (.int .u64 x3)∧w'.cell? ⟨w.heap.size+1,1,none⟩=some (.int .u64 y1))
  tF9 tT9 [0,1,2,3,4,5,6,7,8,9,10,11,12,13,14,15,16,17,18,19,20,21] rfl (by kernel_rfl) (fun _ _ d _ _ h=>by cases d<;>exact h) (by refine⟨?_,?_,?_⟩<;>go_simp) (fun HS=>?_)
 iterate 15
  first
   | (apply Au rfl rfl rfl;focus(intro wq;go_simp;first | done | with_reducible rfl))
   | (apply AN rfl rfl rfl HS;focus(intro wq hq;go_simp;first | done | with_reducible rfl))
  simp only[Act.put,Aci,Acj,Ach]
 refine Az rfl rfl rfl ?_;intro K hK
 go_simp
 refine(R31.out _).mono ?_;rintro e w' ⟨rfl,rfl⟩;refine hK _ _ (fun _ h=>h) ?_;clear hK K HS
 iterate 4
  apply Au rfl rfl rfl
  focus(intro wq;go_simp;first | done | with_reducible rfl)
  simp only[Act.put,Aci,Acj,Ach]
 refine Az rfl rfl rfl ?_;intro K hK
 go_simp
 refine hK _ _ (fun h=>by cases h) ?_;clear hK K;apply Au rfl rfl rfl
 focus(intro wq;go_simp;first | done | with_reducible rfl)
 simp only[Act.put,Aci,Acj,Ach];refine Bf ?_;go_wp2;rw[rounds_succ];go_wp2;refine Ay (fun w'=>w'.cell? ⟨w.heap.size+1+1+1,5,none⟩=some (.int .u64 p23)∧w'.cell? ⟨w.heap.size,3,none⟩=some (.int .u64 x3)∧w'.cell? ⟨w.heap.size+1,2,none⟩=some (.int .u64 y2))
  tF9 tT9 [0,1,2,3,4,5,6,7,8,9,10,11,12,13,14,15,16,17,18,19,20,21] rfl (by kernel_rfl) (fun _ _ d _ _ h=>by cases d<;>exact h) (by refine⟨?_,?_,?_⟩<;>go_simp) (fun HS=>?_)
 iterate 15
  first
   | (apply Au rfl rfl rfl;focus(intro wq;go_simp;first | done | with_reducible rfl))
   | (apply AN rfl rfl rfl HS;focus(intro wq hq;go_simp;first | done | with_reducible rfl))
  simp only[Act.put,Aci,Acj,Ach]
 refine Az rfl rfl rfl ?_;intro K hK
 go_simp
 refine(R32.out _).mono ?_;rintro e w' ⟨rfl,rfl⟩;refine hK _ _ (fun _ h=>h) ?_;clear hK K HS
 iterate 4
  apply Au rfl rfl rfl
  focus(intro wq;go_simp;first | done | with_reducible rfl)
  simp only[Act.put,Aci,Acj,Ach]
 refine Az rfl rfl rfl ?_;intro K hK
 go_simp
 refine hK _ _ (fun h=>by cases h) ?_;clear hK K;apply Au rfl rfl rfl
 focus(intro wq;go_simp;first | done | with_reducible rfl)
 simp only[Act.put,Aci,Acj,Ach];refine Bf ?_;go_wp2;rw[rounds_succ];go_wp2;refine Ay (fun w'=>w'.cell? ⟨w.heap.size+1+1+1,6,none⟩=some (.int .u64 c23)∧w'.cell? ⟨w.heap.size,3,none⟩=some (.int .u64 x3)∧w'.cell? ⟨w.heap.size+1,3,none⟩=some (.int .u64 y3))
  tF9 tT9 [0,1,2,3,4,5,6,7,8,9,10,11,12,13,14,15,16,17,18,19,20,21] rfl (by kernel_rfl) (fun _ _ d _ _ h=>by cases d<;>exact h) (by refine⟨?_,?_,?_⟩<;>go_simp) (fun HS=>?_)
 iterate 15
  first
   | (apply Au rfl rfl rfl;focus(intro wq;go_simp;first | done | with_reducible rfl))
   | (apply AN rfl rfl rfl HS;focus(intro wq hq;go_simp;first | done | with_reducible rfl))
  simp only[Act.put,Aci,Acj,Ach]
 refine Az rfl rfl rfl ?_;intro K hK
 go_simp
 refine(R33.out _).mono ?_;rintro e w' ⟨rfl,rfl⟩;refine hK _ _ (fun _ h=>h) ?_;clear hK K HS
 iterate 4
  apply Au rfl rfl rfl
  focus(intro wq;go_simp;first | done | with_reducible rfl)
  simp only[Act.put,Aci,Acj,Ach]
 refine Az rfl rfl rfl ?_;intro K hK
 go_simp
 refine hK _ _ (fun h=>by cases h) ?_;clear hK K;apply Au rfl rfl rfl
 focus(intro wq;go_simp;first | done | with_reducible rfl)
 simp only[Act.put,Aci,Acj,Ach];refine Bf ?_;go_wp2;rw[rounds_succ];go_wp2;rw[rounds_succ];go_wp2;refine wp_loop_rounds 5 ?_;rw[rounds_succ];go_wp2;refine Ay (fun w'=>w'.cell? ⟨w.heap.size+1+1+1,0,none⟩=some (.int .u64 p00)∧w'.cell? ⟨w.heap.size+1+1+1,4,none⟩=some (.int .u64 p31))
  YK YM [0,1,2,3,4,5,6,7,8,9,10,11,12,13,14,15] rfl (by kernel_rfl) (fun _ _ d _ _ h=>by cases d<;>exact h) (by refine⟨?_,?_⟩<;>go_simp) (fun HS=>?_)
 iterate 9
  first
   | (apply Au rfl rfl rfl;focus(intro wq;go_simp;first | done | with_reducible rfl))
   | (apply AN rfl rfl rfl HS;focus(intro wq hq;go_simp;first | done | with_reducible rfl))
  simp only[Act.put,Aci,Acj,Ach]
 refine Az rfl rfl rfl ?_;intro K hK
 go_simp
 refine(T0.out _).mono ?_;rintro e w' ⟨rfl,rfl⟩;refine hK _ _ (fun _ h=>h) ?_;clear hK K HS
 iterate 4
  apply Au rfl rfl rfl
  focus(intro wq;go_simp;first | done | with_reducible rfl)
  simp only[Act.put,Aci,Acj,Ach]
 refine Az rfl rfl rfl ?_;intro K hK
 go_simp
 refine hK _ _ (fun h=>by cases h) ?_;clear hK K;apply Au rfl rfl rfl
 focus(intro wq;go_simp;first | done | with_reducible rfl)
 simp only[Act.put,Aci,Acj,Ach];refine Bf ?_;go_wp2;rw[rounds_succ];go_wp2;refine Ay (fun w'=>w'.cell? ⟨w.heap.size+1+1+1,1,none⟩=some (.int .u64 p10)∧w'.cell? ⟨w.heap.size+1+1+1,5,none⟩=some (.int .u64 p32))
  YK YM [0,1,2,3,4,5,6,7,8,9,10,11,12,13,14,15] rfl (by kernel_rfl) (fun _ _ d _ _ h=>by cases d<;>exact h) (by refine⟨?_,?_⟩<;>go_simp) (fun HS=>?_)
 iterate 9
  first
   | (apply Au rfl rfl rfl;focus(intro wq;go_simp;first | done | with_reducible rfl))
   | (apply AN rfl rfl rfl HS;focus(intro wq hq;go_simp;first | done | with_reducible rfl))
  simp only[Act.put,Aci,Acj,Ach]
 refine Az rfl rfl rfl ?_;intro K hK
 go_simp
 refine(T1.out _).mono ?_;rintro e w' ⟨rfl,rfl⟩;refine hK _ _ (fun _ h=>h) ?_;clear hK K HS
 iterate 4
  apply Au rfl rfl rfl
  focus(intro wq;go_simp;first | done | with_reducible rfl)
  simp only[Act.put,Aci,Acj,Ach]
 refine Az rfl rfl rfl ?_;intro K hK
 go_simp
 refine hK _ _ (fun h=>by cases h) ?_;clear hK K;apply Au rfl rfl rfl
 focus(intro wq;go_simp;first | done | with_reducible rfl)
 simp only[Act.put,Aci,Acj,Ach];refine Bf ?_;go_wp2;rw[rounds_succ];go_wp2;refine Ay (fun w'=>w'.cell? ⟨w.heap.size+1+1+1,2,none⟩=some (.int .u64 p20)∧w'.cell? ⟨w.heap.size+1+1+1,6,none⟩=some (.int .u64 p33))
  YK YM [0,1,2,3,4,5,6,7,8,9,10,11,12,13,14,15] rfl (by kernel_rfl) (fun _ _ d _ _ h=>by cases d<;>exact h) (by refine⟨?_,?_⟩<;>go_simp) (fun HS=>?_)
 iterate 9
  first
   | (apply Au rfl rfl rfl;focus(intro wq;go_simp;first | done | with_reducible rfl))
   | (apply AN rfl rfl rfl HS;focus(intro wq hq;go_simp;first | done | with_reducible rfl))
  simp only[Act.put,Aci,Acj,Ach]
 refine Az rfl rfl rfl ?_;intro K hK
 go_simp
 refine(T2.out _).mono ?_;rintro e w' ⟨rfl,rfl⟩;refine hK _ _ (fun _ h=>h) ?_;clear hK K HS
 iterate 4
  apply Au rfl rfl rfl
  focus(intro wq;go_simp;first | done | with_reducible rfl)
  simp only[Act.put,Aci,Acj,Ach]
 refine Az rfl rfl rfl ?_;intro K hK
 go_simp
 refine hK _ _ (fun h=>by cases h) ?_;clear hK K;apply Au rfl rfl rfl
 focus(intro wq;go_simp;first | done | with_reducible rfl)
 simp only[Act.put,Aci,Acj,Ach];refine Bf ?_;go_wp2;rw[rounds_succ];go_wp2;refine Ay (fun w'=>w'.cell? ⟨w.heap.size+1+1+1,3,none⟩=some (.int .u64 p30)∧w'.cell? ⟨w.heap.size+1+1+1,7,none⟩=some (.int .u64 c33))
  YK YM [0,1,2,3,4,5,6,7,8,9,10,11,12,13,14,15] rfl (by kernel_rfl) (fun _ _ d _ _ h=>by cases d<;>exact h) (by refine⟨?_,?_⟩<;>go_simp) (fun HS=>?_)
 iterate 9
  first
   | (apply Au rfl rfl rfl;focus(intro wq;go_simp;first | done | with_reducible rfl))
   | (apply AN rfl rfl rfl HS;focus(intro wq hq;go_simp;first | done | with_reducible rfl))
  simp only[Act.put,Aci,Acj,Ach]
 refine Az rfl rfl rfl ?_;intro K hK
 go_simp
 refine(T3.out _).mono ?_;rintro e w' ⟨rfl,rfl⟩;refine hK _ _ (fun _ h=>h) ?_;clear hK K HS
 iterate 4
  apply Au rfl rfl rfl
  focus(intro wq;go_simp;first | done | with_reducible rfl)
  simp only[Act.put,Aci,Acj,Ach]
 refine Az rfl rfl rfl ?_;intro K hK
 go_simp
 refine hK _ _ (fun h=>by cases h) ?_;clear hK K;apply Au rfl rfl rfl
 focus(intro wq;go_simp;first | done | with_reducible rfl)
 simp only[Act.put,Aci,Acj,Ach];refine Bf ?_;go_wp2;rw[rounds_succ];go_wp2_with fail;refine(Ov _ _ _ _ _ _ t0.lo t1.lo t2.lo t3.lo hc0 hc1).mono ?_;rintro e w1 ⟨q0,q1,q2,q3,hq0,hq1,hq2,hq3,⟨k,ek⟩,rfl,hb1⟩;have g4:=Aj hb1 (Wr w _ _ _ _ _) (by simp<;>omega)
 have hB1:Hid (Below w.heap.size w w1):=by
  refine Below.trans ?_ (hb1.mono (by simp<;>omega))
  repeat first | exact Below.refl _ _ | refine Below.alloc ?_ (by simp<;>omega) _ | refine Below.drew ?_ | refine Below.drewN' ?_ _
 clear hb1;have EK:=Hid.mk (TF E1.out E2.out ek);clear ek
 go_wp2_with (refine DH rfl _ _ rfl _ _ _ _ _ rfl rfl _ _ _ _ g4 ?_;intro w2 g5 o5)
 exact bodyPost_ret (v:=.agg #[.int .u64 q0,.int .u64 q1,.int .u64 q2,.int .u64 q3]) (results_cell_row rfl _ _ _ _ _ _ _ rfl g5 underlying142 rfl (by kernel_rfl)) rfl
  ⟨q0,q1,q2,q3,hq0,hq1,hq2,hq3,⟨_,EK.out⟩,rfl,Below.trans hB1.out (Only.below (b:=w.heap.size+1+1) (B:=w.heap.size) o5 (by omega))⟩
def CV:List Int→Int
 | []=>1
 | x::l=>x*CV l
theorem NR(l m:List Int):CV (l++m)=CV l*CV m:=by
 induction l with
 | nil=>simp[CV]
 | cons x l ih=>simp only[List.cons_append,CV,ih,Acn]
theorem MU(ns:List Int)(k:Nat)(h:k<ns.length):CV (ns.take (k+1))=CV (ns.take k)*ns[k]:=by
 rw[List.take_succ_eq_append_getElem h,NR];simp[CV]
theorem Ws{ns:List Int}{k:Nat}{Z Q c n:Int}(hz:∃c:Int,Z=CV (ns.take k)+c*P255)(e:Q=Z*n+c*P255)(hs:CV (ns.take (k+1))=CV (ns.take k)*n):∃c:Int,Q=CV (ns.take (k+1))+c*P255:=by
 obtain⟨d,rfl⟩:=hz;exact⟨d*n+c,by rw[e,hs,Int.add_mul,Int.add_mul,Acn,Acy P255 n,←Acn];omega⟩
theorem OV{ns:List Int}{Z:Int}(hz:∃c:Int,Z=CV (ns.take ns.length)+c*P255):Z%P255=CV ns%P255:=by
 obtain⟨d,rfl⟩:=hz;rw[List.take_length,Acy,AcQ]
theorem OW(b off cap:Nat)(ns:List Int)(w:World)(hr:∀n∈ns,0≤n∧n<Bm)(hrows:RowsAt w b off ns)(hb:b<w.heap.size)(hlen:ns.length≤4611686018427387904)(hcap:ns.length≤cap)(h1:1≤ns.length):Calls prog 103 #[.slice (some ⟨b,off,none⟩) ns.length cap] w fun e w'=>e=.returned (.agg (BA (CV ns%P255)))∧Below w.heap.size w w':=by
 have hz:((ns.length:Int)==0)=false:=by simp;intro h;simp[h] at h1
 have hn0:=hr _ (List.getElem_mem (show 0<ns.length by omega));have r0:=hrows 0 (by omega);have hgd:ns.getD 0 0=ns[0]:=by simp[show 0<ns.length by omega]
 rw[hgd] at r0;have E0:=Hid.mk (MU ns 0 (by omega));have HR:=Hid.mk hr;have HW:=Hid.mk hrows;clear hr hrows hgd;simp only[Nat.zero_mul,Ac6] at r0;generalize ns[0]=n0 at *;have R0:Hid (∀v,Below w.heap.size w v→v.rangeAt b off (BA n0).toList):=fun v hB j x hx=>(hB.cell hb).trans (r0 j x hx)
 clear r0
 rcases Nat.eq_or_lt_of_le (show 1≤cap by omega) with hc | hc
 ·subst hc
  go_enter func103,ntmps103
  go_wp2_with (refine C7 rfl _ rfl _ _ n0 rfl (R0.out _ ((Below.refl _ _).alloc (Acg _) _)) ?_)
  refine(Ed n0 _).mono ?_;rintro e v0 ⟨rfl,hb0⟩;have gz:=Aj hb0 (heap_alloc_new w _) (by simp<;>omega);have hB:=Below.trans ((Below.refl _ w).alloc (Acg _) _) (hb0.mono (by simp<;>omega));clear hb0
  go_wp2_with (refine DH rfl _ _ rfl _ _ _ _ _ rfl rfl _ _ _ _ (heap_alloc_new v0 _) ?_;intro v1 g1 o1)
  have hsz:w.heap.size<v0.heap.size:=Aa gz;have gz1:=(o1.block _ (by omega)).trans ((Below.heap_alloc v0 _ _ hsz).trans gz);have hB1:Below w.heap.size w v1:=Below.trans (hB.alloc (by omega) _) (Only.below (b:=v0.heap.size) (B:=w.heap.size) o1 (by omega));clear o1 gz hB;generalize v0.heap.size=bs at *;refine wp_loop_rounds 1 ?_;rw[rounds_succ];have e1:ns.length=1:=by omega
  have Z1:Hid (∃c:Int,V4 (Ec n0 0) (Ec n0 8) (Ec n0 16) (Ec n0 24)=CV (ns.take ns.length)+c*P255):=⟨0,by rw[DW hn0.1 hn0.2,e1,E0.out];simp[CV]⟩;have e2:((ns.length-1:Nat):Int)=0:=by omega
  clear e1
  go_wp2_with (refine ER rfl _ rfl _ _ _ _ _ rfl g1 ?_)
  refine(D5 _ _ _ _ _ (AR _ _) (AR _ _) (AR _ _) (AR _ _)).mono ?_;rintro e v2 ⟨rfl,hb2⟩;have gz2:=Aj hb2 gz1 (Aa gz1);have hB2:=Below.trans hB1 (hb2.mono hB1.size);clear hb2
  go_wp2_with (refine BF rfl _ _ rfl _ _ rfl rfl _ gz2 rfl ?_;intro v3 g3 o3)
  rw[OV Z1.out] at g3;exact bodyPost_ret (v:=.agg (BA (CV ns%P255))) (results_cell_row rfl _ _ _ _ _ _ _ rfl g3 underlying22 rfl (by rw[Ah];exact Bo)) rfl
   ⟨rfl,Below.trans hB2 (Only.below (b:=w.heap.size) (B:=w.heap.size) o3 (by omega))⟩
 ·have hc':¬cap=1:=by omega
  go_enter func103,ntmps103
  go_wp2_with (refine C7 rfl _ rfl _ _ n0 rfl (R0.out _ ((Below.refl _ _).alloc (Acg _) _)) ?_)
  refine(Ed n0 _).mono ?_;rintro e v0 ⟨rfl,hb0⟩;have gz:=Aj hb0 (heap_alloc_new w _) (by simp<;>omega);have hB:=Below.trans ((Below.refl _ w).alloc (Acg _) _) (hb0.mono (by simp<;>omega));clear hb0
  go_wp2_with (refine DH rfl _ _ rfl _ _ _ _ _ rfl rfl _ _ _ _ (heap_alloc_new v0 _) ?_;intro v1 g1 o1)
  have hsz:w.heap.size<v0.heap.size:=Aa gz;have gz1:=(o1.block _ (by omega)).trans ((Below.heap_alloc v0 _ _ hsz).trans gz);have hB1:Below w.heap.size w v1:=Below.trans (hB.alloc (by omega) _) (Only.below (b:=v0.heap.size) (B:=w.heap.size) o1 (by omega));clear o1 gz hB;generalize v0.heap.size=bs at *
  go_loopw [17] (fun i v=>∃k:Nat,k+1≤ns.length∧i=.int .i64 k∧∃z0 z1 z2 z3,U64 z0∧U64 z1∧U64 z2∧U64 z3∧(∃c:Int,V4 z0 z1 z2 z3=CV (ns.take (k+1))+c*P255) ∧
    v.heap[bs]?=some (.cells #[.int .u64 z0,.int .u64 z1,.int .u64 z2,.int .u64 z3] 142 (0,0))∧(∃z:Array Value,v.heap[w.heap.size]?=some (.cells z 22 (0,0))∧z.size=32)∧Below w.heap.size w v)
   (fun i _=>ns.length-(intOf i).toNat)
  case atStart =>
   exact⟨0,h1,rfl,_,_,_,_,AR _ _,AR _ _,AR _ _,AR _ _,⟨0,by rw[DW hn0.1 hn0.2,E0.out];simp[CV]⟩,g1,⟨_,gz1,rfl⟩,hB1⟩
  case round =>
   clear g1 gz1 hB1;obtain⟨k,hk,rfl,z0,z1,z2,z3,hz0,hz1,hz2,hz3,hzz,gs,⟨z,gz,sz⟩,hB⟩:=hrel;have HZ:=Hid.mk hzz;clear hzz
   by_cases hlt:k+1<ns.length
   ·have hn:=HR.out _ (List.getElem_mem hlt)
    have hrow:wr.rangeAt b (off+32+k*32) (BA (ns.getD (k+1) 0)).toList:=fun j v hv=>by
     have h2:=HW.out (k+1) hlt j v hv;rw[show off+(k+1)*32=off+32+k*32 by omega] at h2;exact(hB.cell hb).trans h2
    have hgd:ns.getD (k+1) 0=ns[k+1]:=by simp[hlt]
    rw[hgd] at hrow;have hsn:=Hid.mk (MU ns (k+1) hlt);clear hgd;generalize ns[k+1]=n at *;have HROW:=Hid.mk hrow;clear hrow;have hlt2:(k:Int)<((ns.length-1:Nat):Int):=by omega
    have hlt3:k<ns.length-1:=by omega
    go_wp2_with (first|(refine C7 rfl _ rfl _ _ n rfl HROW.out ?_)|(refine BF rfl _ _ rfl _ n rfl rfl _ (heap_alloc_new wr _) rfl ?_;intro v1 g1 o1))
    have hsz2:bs<wr.heap.size:=Aa gs;have gs1:=(o1.block _ (by omega)).trans ((Below.heap_alloc wr _ _ hsz2).trans gs);have gz1:=(o1.block _ (by omega)).trans ((Below.heap_alloc wr _ _ (by omega)).trans gz);have hB1:Below w.heap.size w v1:=Below.trans (hB.alloc (by omega) _) (Only.below (b:=wr.heap.size) (B:=w.heap.size) o1 (by omega));clear o1 gs gz hB;generalize wr.heap.size=bw at *;refine Ay (fun v=>v.heap[bs]?=some (.cells #[.int .u64 z0,.int .u64 z1,.int .u64 z2,.int .u64 z3] 142 (0,0))∧v.heap[bw]?=some (.cells (BA n) 22 (0,0)))
     Abu Abv [0,1,2,3,4] rfl (by kernel_rfl) (fun _ _ d _ _ h=>by cases d<;>exact h) ⟨gs1,g1⟩ (fun HS=>?_)
    apply AN rfl rfl rfl HS
    focus exact fun v h=>Lr rfl _ _ _ _ _ rfl h.1
    simp only[Act.put,Aci,Acj,Ach];apply AN rfl rfl rfl HS
    focus exact fun v h=>Bj rfl _ _ rfl (Ah _) h.2
    simp only[Act.put,Aci,Acj,Ach];clear HS g1;refine Az rfl rfl rfl ?_;intro K hK
    go_simp
    refine(Ed n _).mono ?_;rintro e v2 ⟨rfl,hb2⟩;have gs2:=Aj hb2 gs1 (Aa gs1);have gz2:=Aj hb2 gz1 (Aa gz1);have hB2:=Below.trans (Below.drew hB1) (hb2.mono hB1.size);refine hK _ _ (fun _ h=>⟨Aj hb2 h.1 (Aa h.1),Aj hb2 h.2 (Aa h.2)⟩) ?_;clear hK K hb2 gs1 gz1 hB1;refine Az rfl rfl rfl ?_;intro K hK
    go_simp
    refine(JB _ _ _ _ _ _ _ _ _ hz0 hz1 hz2 hz3 (AR _ _) (AR _ _) (AR _ _) (AR _ _)).mono ?_;rintro e v3 ⟨q0,q1,q2,q3,hq0,hq1,hq2,hq3,⟨c,ec⟩,rfl,hb3⟩;rw[DW hn.1 hn.2] at ec;have EC:=Hid.mk ec;clear ec;have gs3:=Aj hb3 gs2 (Aa gs2);have gz3:=Aj hb3 gz2 (Aa gz2);have hB3:=Below.trans hB2 (hb3.mono hB2.size);refine hK _ _ (fun _ h=>⟨Aj hb3 h.1 (Aa h.1),Aj hb3 h.2 (Aa h.2)⟩) ?_;clear hK K hb3 gs2 gz2 hB2;refine Az rfl rfl rfl ?_;intro K hK;refine MT _ _ rfl _ _ _ _ _ rfl rfl _ _ _ _ gs3 ?_;intro v4 g4 o4;refine hK _ _ (fun h=>by cases h) ?_;clear hK K;refine Bf ?_;have gz4:=(o4.block _ (by omega)).trans gz3;have hB4:Below w.heap.size w v4:=Below.trans hB3 (Only.below (b:=bs) (B:=w.heap.size) o4 (by omega));clear o4 gs3 gz3 hB3;go_wp2
    go_roundw
    case rel=>exact⟨k+1,by omega,by go_num,q0,q1,q2,q3,hq0,hq1,hq2,hq3,Ws HZ.out EC.out hsn.out,g4,⟨z,gz4,sz⟩,hB4⟩
    case measure=>simp[intOf];omega
   ·have hk2:k+1=ns.length:=by omega
    have HZ2:=HZ.out;rw[hk2] at HZ2;have HZ3:=Hid.mk HZ2;have hk3:¬(k:Int)<((ns.length-1:Nat):Int):=by omega
    clear hk2 HZ2
    go_wp2_with (refine ER rfl _ rfl _ _ _ _ _ rfl gs ?_)
    refine(D5 _ _ _ _ _ hz0 hz1 hz2 hz3).mono ?_;rintro e v2 ⟨rfl,hb2⟩;have gz2:=Aj hb2 gz (Aa gz);have hB2:=Below.trans hB (hb2.mono hB.size);clear hb2
    go_wp2_with (refine BF rfl _ _ rfl _ _ rfl rfl _ gz2 sz ?_;intro v3 g3 o3)
    rw[OV HZ3.out] at g3;exact bodyPost_ret (v:=.agg (BA (CV ns%P255))) (results_cell_row rfl _ _ _ _ _ _ _ rfl g3 underlying22 rfl (by rw[Ah];exact Bo)) rfl
     ⟨rfl,Below.trans hB2 (Only.below (b:=w.heap.size) (B:=w.heap.size) o3 (by omega))⟩
theorem Wu(w:World)(A B:Obj):((w.alloc A).alloc B).heap[w.heap.size]?=some A:=heap_alloc2_old w A B
theorem Abw:U64 1:=by unfold U64;omega
def Cs(e:Int)(k:Nat):Nat:=e.toNat/2 ^ (256-k)
theorem TG{a e:Int}(h1:e<Bm):V4 1 0 0 0=a ^ Cs e 0+0*P255:=by
 unfold Cs;have:e.toNat/2 ^ 256=0:=Nat.div_eq_of_lt (by unfold Bm at h1;omega);rw[NM,show 256-0=256 from rfl,this];simp
theorem Ip(x:Int)(h0:0≤x)(h1:x<256):bits BinOp.and IntKind.u8 x 1=x%2:=by go_bits2
theorem NS(e:Int)(m:Nat)(he:0≤e):(byt e (m/8)/2 ^ (m%8))%2=((e.toNat/2 ^ m%2:Nat):Int):=by
 obtain⟨E,rfl⟩:=Ac3 he;rw[AcB]
 have e1:E/2 ^ m=E/256 ^ (m/8)/2 ^ (m%8):=by
  rw[Nat.div_div_eq_div_mul];congr 1;rw[show (256:Nat)=2 ^ 8 from rfl,←Nat.pow_mul,←Nat.pow_add];congr 1;omega
 have e2:byt (E:Int) (m/8)=((E/256 ^ (m/8)%256:Nat):Int):=by
  unfold byt;rw[show ((256:Int) ^ (m/8))=((256 ^ (m/8):Nat):Int) from by rw[Int.natCast_pow];rfl];omega
 rw[e1,e2];generalize E/256 ^ (m/8)=G;have hj:m%8<8:=by omega
 generalize m%8=j at *;have:j=0∨j=1∨j=2∨j=3∨j=4∨j=5∨j=6∨j=7:=by omega
 rcases this with rfl | rfl | rfl | rfl | rfl | rfl | rfl | rfl<;>omega
theorem IK(e:Int)(k:Nat)(h:k<256)(he:0≤e):Cs e (k+1)=2*Cs e k+(if (bits BinOp.and IntKind.u8 (byt e ((255-k)/8)/2 ^ ((255-k)%8)) 1==1)=true then 1 else 0):=by
 have hb:=Bq e ((255-k)/8);unfold BR at hb;have hp:(0:Int)<2 ^ ((255-k)%8):=Int.pow_pos (by decide);have h0:0≤byt e ((255-k)/8)/2 ^ ((255-k)%8):=Int.ediv_nonneg hb.1 (by omega)
 have h1:byt e ((255-k)/8)/2 ^ ((255-k)%8)<256:=by
  have:=Int.ediv_le_self (2 ^ ((255-k)%8)) hb.1;omega
 rw[Ip _ h0 h1,NS e (255-k) he];unfold Cs;rw[show 256-(k+1)=255-k by omega,show 256-k=(255-k)+1 by omega,Nat.pow_succ,←Nat.div_div_eq_div_mul];generalize e.toNat/2 ^ (255-k)=G;have hG:G%2=0∨G%2=1:=by omega
 rcases hG with hG | hG<;>simp[hG]<;>omega
theorem Aas{A Z Q c:Int}(hz:∃c:Int,Z=A+c*P255)(e:Q=Z*Z+c*P255):∃c:Int,Q=A*A+c*P255:=by
 obtain⟨d,rfl⟩:=hz;exact⟨2*A*d+d*d*P255+c,by rw[e];grind⟩
theorem Wv{a Q:Int}{t:Nat}(h:∃c:Int,Q=a ^ t*a ^ t+c*P255):∃c:Int,Q=a ^ (2*t+(if false=true then 1 else 0))+c*P255:=by
 obtain⟨c,h⟩:=h;exact⟨c,by rw[h,←Ac2];simp;rw[Nat.two_mul]⟩
theorem YN{a Q S d:Int}{t:Nat}(h:∃c:Int,Q=a ^ t*a ^ t+c*P255)(e:S=Q*a+d*P255):∃c:Int,S=a ^ (2*t+(if true=true then 1 else 0))+c*P255:=by
 obtain⟨c,rfl⟩:=h;refine⟨c*a+d,?_⟩;rw[e];simp only[if_true,Acr,Nat.two_mul,Ac2]
 grind
theorem Ww{a e Z:Int}(hz:∃c:Int,Z=a ^ Cs e 256+c*P255):Z%P255=a ^ e.toNat%P255:=by
 obtain⟨d,rfl⟩:=hz;rw[Acy,AcQ];simp[Cs]
theorem YO(a e:Int)(w:World)(ha0:0≤a)(ha1:a<Bm)(he0:0≤e)(he1:e<Bm):Calls prog 137 #[.agg (BA a),.agg (BA e)] w fun r w'=>r=.returned (.agg (BA (a ^ e.toNat%P255)))∧Below w.heap.size w w':=by
 go_enter func137,ntmps137
 go_wp2_with (refine A7 rfl _ rfl _ _ rfl (A6 w _ _ _) (Ah _) ?_)
 refine(Ed a _).mono ?_;rintro r v0 ⟨rfl,hb0⟩;have ge:=Aj hb0 (AB w _ _ _) (by simp<;>omega);have gz:=Aj hb0 (AK w _ _ _) (by simp<;>omega)
 have hB:Below w.heap.size w v0:=by
  refine Below.trans ?_ (hb0.mono (by simp<;>omega))
  repeat first | exact Below.refl _ _ | refine Below.alloc ?_ (by simp<;>omega) _
 clear hb0
 go_wp2_with (first|(refine DH rfl _ _ rfl _ _ _ _ _ rfl rfl _ _ _ _ (Wu v0 _ _) ?_;intro v1 g1 o1;have g2:=(o1.block _ (by omega)).trans (heap_alloc2_new v0 _ _))|(refine DH rfl _ _ rfl _ _ _ _ _ rfl rfl _ _ _ _ g2 ?_;intro v2 g3 o2))
 have hs0:w.heap.size+1+1<v0.heap.size:=Aa gz;have ge2:=(o2.block _ (by omega)).trans ((o1.block _ (by omega)).trans ((Below.heap_alloc _ _ _ (by simp<;>omega)).trans ((Below.heap_alloc _ _ _ (by omega)).trans ge)));have gz2:=(o2.block _ (by omega)).trans ((o1.block _ (by omega)).trans ((Below.heap_alloc _ _ _ (by simp<;>omega)).trans ((Below.heap_alloc _ _ _ (by omega)).trans gz)));have gb2:=(o2.block _ (by omega)).trans g1;have hB2:Below w.heap.size w v2:=Below.trans ((hB.alloc (by omega) _).alloc (by simp<;>omega) _) (Below.trans (Only.below (b:=v0.heap.size) (B:=w.heap.size) o1 (by omega)) (Only.below (b:=v0.heap.size+1) (B:=w.heap.size) o2 (by omega)));clear o1 o2 g1 g2 ge gz hB;generalize v0.heap.size=bs at *
 go_loopw [12] (fun i v=>∃k:Nat,k≤256∧i=.int .i64 k∧∃z0 z1 z2 z3,U64 z0∧U64 z1∧U64 z2∧U64 z3∧(∃c:Int,V4 z0 z1 z2 z3=a ^ Cs e k+c*P255) ∧
   v.heap[bs+1]?=some (.cells #[.int .u64 z0,.int .u64 z1,.int .u64 z2,.int .u64 z3] 142 (0,0)) ∧
   v.heap[bs]?=some (.cells #[.int .u64 (Ec a 0),.int .u64 (Ec a 8),.int .u64 (Ec a 16),.int .u64 (Ec a 24)] 142 (0,0)) ∧
   v.heap[w.heap.size+1]?=some (.cells (BA e) 22 (0,0))∧(∃z:Array Value,v.heap[w.heap.size+1+1]?=some (.cells z 22 (0,0))∧z.size=32)∧Below w.heap.size w v)
  (fun i _=>256-(intOf i).toNat)
 case atStart =>
  exact⟨0,by omega,rfl,1,0,0,0,Abw,Dl,Dl,Dl,⟨0,TG he1⟩,g3,gb2,ge2,⟨_,gz2,rfl⟩,hB2⟩
 case round =>
  clear g3 gb2 ge2 gz2 hB2;obtain⟨k,hk,rfl,z0,z1,z2,z3,hz0,hz1,hz2,hz3,hz,gp,gb,ge,⟨z,gz,sz⟩,hB⟩:=hrel;have HZ:=Hid.mk hz;clear hz
  by_cases hlt:k<256
  ·have hbit:=IK e k hlt he0
   cases hbv:(bits BinOp.and IntKind.u8 (byt e ((255-k)/8)/2 ^ ((255-k)%8)) 1==1)
   all_goals
    rw[hbv] at hbit;have HBIT:=Hid.mk hbit;clear hbit
    go_wp2_with (refine ER rfl _ rfl _ _ _ _ _ rfl gp ?_)
    refine(JB _ _ _ _ _ _ _ _ _ hz0 hz1 hz2 hz3 hz0 hz1 hz2 hz3).mono ?_;rintro r v1 ⟨q0,q1,q2,q3,hq0,hq1,hq2,hq3,⟨c,ec⟩,rfl,hb1⟩;have EC:=Hid.mk (Aas HZ.out ec);clear ec;have gp1:=Aj hb1 gp (Aa gp);have gb1:=Aj hb1 gb (Aa gb);have ge1:=Aj hb1 ge (Aa ge);have gz1:=Aj hb1 gz (Aa gz);have hB1:=Below.trans hB (hb1.mono hB.size);clear hb1 gp gb ge gz hB
    go_wp2_with (first|(refine DH rfl _ _ rfl _ _ _ _ _ rfl rfl _ _ _ _ gp1 ?_;intro v2 gp2 o2;have gb2:=(o2.block _ (by omega)).trans gb1;have ge2:=(o2.block _ (by omega)).trans ge1;have gz2:=(o2.block _ (by omega)).trans gz1;have hB2:=Below.trans hB1 (Only.below (b:=bs+1) (B:=w.heap.size) o2 (by omega));have ce:=(cell_of_row v2 (w.heap.size+1) ((255-k)/8) _ _ _ ge2).trans (BH e _ (by omega)))|(refine ER rfl _ rfl _ _ _ _ _ rfl gp2 ?_)|(refine ER rfl _ rfl _ _ _ _ _ rfl gb2 ?_))
   ·exact⟨⟨k+1,by omega,by go_num,q0,q1,q2,q3,hq0,hq1,hq2,hq3,by rw[HBIT.out];exact Wv EC.out,gp2,gb2,ge2,⟨z,gz2,sz⟩,hB2⟩,by simp[intOf];omega⟩
   ·refine(JB _ _ _ _ _ _ _ _ _ hq0 hq1 hq2 hq3 (AR _ _) (AR _ _) (AR _ _) (AR _ _)).mono ?_
    rintro r v3 ⟨p0,p1,p2,p3,hp0,hp1,hp2,hp3,⟨d,ed⟩,rfl,hb3⟩;rw[DW ha0 ha1] at ed;have ED:=Hid.mk (YN EC.out ed);clear ed;have gp3:=Aj hb3 gp2 (Aa gp2);have gb3:=Aj hb3 gb2 (Aa gb2);have ge3:=Aj hb3 ge2 (Aa ge2);have gz3:=Aj hb3 gz2 (Aa gz2);have hB3:=Below.trans hB2 (hb3.mono hB2.size);clear hb3 gp2 gb2 ge2 gz2 hB2 ce gp1 gb1 ge1 gz1 hB1
    go_wp2_with (refine DH rfl _ _ rfl _ _ _ _ _ rfl rfl _ _ _ _ gp3 ?_;intro v4 gp4 o4)
    have gb4:=(o4.block _ (by omega)).trans gb3;have ge4:=(o4.block _ (by omega)).trans ge3;have gz4:=(o4.block _ (by omega)).trans gz3;have hB4:=Below.trans hB3 (Only.below (b:=bs+1) (B:=w.heap.size) o4 (by omega));exact⟨⟨k+1,by omega,by go_num,p0,p1,p2,p3,hp0,hp1,hp2,hp3,by rw[HBIT.out];exact ED.out,gp4,gb4,ge4,⟨z,gz4,sz⟩,hB4⟩,by simp[intOf];omega⟩
  ·have hk2:k=256:=by omega
   subst hk2
   go_wp2_with (refine ER rfl _ rfl _ _ _ _ _ rfl gp ?_)
   refine(D5 _ _ _ _ _ hz0 hz1 hz2 hz3).mono ?_;rintro r v2 ⟨rfl,hb2⟩;have gz2:=Aj hb2 gz (Aa gz);have hB2:=Below.trans hB (hb2.mono hB.size);clear hb2
   go_wp2_with (refine BF rfl _ _ rfl _ _ rfl rfl _ gz2 sz ?_;intro v3 g3 o3)
   rw[Ww HZ.out] at g3;exact bodyPost_ret (v:=.agg (BA (a ^ e.toNat%P255))) (results_cell_row rfl _ _ _ _ _ _ _ rfl g3 underlying22 rfl (by rw[Ah];exact Bo)) rfl
    ⟨rfl,Below.trans hB2 (Only.below (b:=w.heap.size+1+1) (B:=w.heap.size) o3 (by omega))⟩
theorem Ls(x y:Int)(d:Nat)(w:World):∀(is:List Nat),(∀i∈is,i<32)→(Op.eqItems (d+1) 5 1 (BA x) (BA y) is).run prog w=.ok (is.all fun i=>byt x i==byt y i) w
 | [],_=>by simp[Op.eqItems]
 | i::is,h=>by
  have hi:i<32:=h i (by simp);have ih:=Ls x y d w is (fun j hj=>h j (by simp[hj]))
  have e1:(part 5 (BA x) (i*1)).run prog w=.ok (.int .u8 (byt x i)) w:=by
   simp[part,BH,hi,go_sem]
  have e2:(part 5 (BA y) (i*1)).run prog w=.ok (.int .u8 (byt y i)) w:=by
   simp[part,BH,hi,go_sem]
  simp only[Op.eqItems,Sem.run_bind,e1,e2,Result.andThen_ok,run_equalIn_int w d 5 .u8 .u8 _ _ underlying5,List.all_cons];cases hb:(byt x i==byt y i)
  ·simp
  ·simpa using ih
theorem YP{x y:Int}(hx0:0≤x)(hx1:x<Bm)(hy0:0≤y)(hy1:y<Bm)(h:∀i,i<32→byt x i=byt y i):x=y:=by
 rw[←DW hx0 hx1,←DW hy0 hy1];simp only[←Rx]
 simp only[h 0 (by omega),h (0+1) (by omega),h (0+2) (by omega),h (0+3) (by omega),h (0+4) (by omega),h (0+5) (by omega),h (0+6) (by omega),h (0+7) (by omega),
  h 8 (by omega),h (8+1) (by omega),h (8+2) (by omega),h (8+3) (by omega),h (8+4) (by omega),h (8+5) (by omega),h (8+6) (by omega),h (8+7) (by omega),
  h 16 (by omega),h (16+1) (by omega),h (16+2) (by omega),h (16+3) (by omega),h (16+4) (by omega),h (16+5) (by omega),h (16+6) (by omega),h (16+7) (by omega),
  h 24 (by omega),h (24+1) (by omega),h (24+2) (by omega),h (24+3) (by omega),h (24+4) (by omega),h (24+5) (by omega),h (24+6) (by omega),h (24+7) (by omega)]
theorem YQ{x y:Int}(hx0:0≤x)(hx1:x<Bm)(hy0:0≤y)(hy1:y<Bm):((Aco 32).all fun i=>byt x i==byt y i)=(x==y):=by
 by_cases h:x=y
 ·subst h;simp
 ·have h1:(x==y)=false:=by simpa using h
  rw[h1]
  cases hb:(Aco 32).all fun i=>byt x i==byt y i with
  | false=>rfl
  | true =>
   exfalso;apply h;refine YP hx0 hx1 hy0 hy1 (fun i hi=>?_);have:=List.all_eq_true.1 hb i (List.mem_range.2 hi)
   simpa using this
theorem Jr:Tryz.prog.cellsOf 5=1:=by kernel_rfl
theorem UL:(Tryz.prog.info? 5).isSome=true:=by kernel_rfl
theorem OX(x y:Int)(d:Nat)(w:World):(Op.equalIn (d+1+1) 22 (.agg (BA x)) (.agg (BA y))).run prog w=.ok ((Aco 32).all fun i=>byt x i==byt y i) w:=by
 obtain⟨i,hi⟩:=Option.isSome_iff_exists.1 UL;rw[run_equalIn_array w (d+1) (BA x) (BA y) underlying22 hi,Jr];exact Ls x y d w _ (fun i hi=>List.mem_range.1 hi)
theorem Abx:Tryz.prog.eqGuardType Tryz.prog.depth 22=false:=by kernel_rfl
theorem Ku(m n:Int)(w:World):(Instr.buildSlice 75 2 #[(0,.agg (BA m)),(1,.agg (BA n))]).run prog w=.ok (.slice (some ⟨w.heap.size,0,none⟩) 2 2) (w.alloc (.cells (BA m++BA n) 22)):=by kernel_rfl
theorem YR(m n k:Int)(w:World):(Instr.buildSlice 75 3 #[(0,.agg (BA m)),(1,.agg (BA n)),(2,.agg (BA k))]).run prog w=.ok (.slice (some ⟨w.heap.size,0,none⟩) 3 3) (w.alloc (.cells (BA m++BA n++BA k) 22)):=by kernel_rfl
theorem RJ{w:World}{b:Nat}{cs:Array Value}{ns:List Int}(hg:w.heap[b]?=some (.cells cs 22 (0,0)))(h:∀k,k<ns.length→∀j v,(BA (ns.getD k 0)).toList[j]?=some v→cs[k*32+j]?=some v):RowsAt w b 0 ns:=
 fun k hk j v hv=>by rw[cell_of_row w b _ _ _ _ hg,Acl];exact h k hk j v hv
theorem F2{w:World}{b:Nat}{x y:Int}(hg:w.heap[b]?=some (.cells (BA x++BA y) 22 (0,0))):RowsAt w b 0 [x,y]:=
 RJ hg (fun k hk j v hv=>by
  have hj:j<32:=by have:=(List.getElem?_eq_some_iff.1 hv).1;rwa [AcE,Ah] at this
  have hk2:k=0∨k=1:=by simp at hk;omega
  rcases hk2 with rfl | rfl
  ·rw[AcJ (by rw[Ah];omega)];simpa using hv
  ·rw[Array.getElem?_append_right (by rw[Ah];omega),Ah,show 1*32+j-32=j by omega];simpa using hv)
theorem Aby{w:World}{b:Nat}{x y z:Int}(hg:w.heap[b]?=some (.cells (BA x++BA y++BA z) 22 (0,0))):RowsAt w b 0 [x,y,z]:=
 RJ hg (fun k hk j v hv=>by
  have hj:j<32:=by have:=(List.getElem?_eq_some_iff.1 hv).1;rwa [AcE,Ah] at this
  have hk2:k=0∨k=1∨k=2:=by simp at hk;omega
  rcases hk2 with rfl | rfl | rfl
  ·rw[AcJ (by rw[Array.size_append,Ah,Ah];omega),AcJ (by rw[Ah];omega)];simpa using hv
  ·rw[AcJ (by rw[Array.size_append,Ah,Ah];omega),Array.getElem?_append_right (by rw[Ah];omega),Ah,show 1*32+j-32=j by omega];simpa using hv
  ·rw[Array.getElem?_append_right (by rw[Array.size_append,Ah,Ah];omega),Array.size_append,Ah,Ah,show 2*32+j-(32+32)=j by omega];simpa using hv)
def N256(x:Int):Prop:=0≤x∧x<Bm
theorem N256.mod(x:Int):N256 (x%P255):=⟨(Ef x).1,by have:=(Ef x).2;unfold P255 at this;unfold Bm;unfold P255;omega⟩
theorem YS(x y:Int)(b:Nat)(w:World)(hx:N256 x)(hy:N256 y)(hr:RowsAt w b 0 [x,y])(hb:b<w.heap.size):Calls prog 166 #[.slice (some ⟨b,0,none⟩) 2 2] w fun r w'=>r=.returned (.agg (BA ((x+y)%P255)))∧Below w.heap.size w w':=by
 have:=Wi b 0 2 [x,y] w (by simpa using ⟨hx,hy⟩) hr hb (by simp)
 simpa using this
theorem NT(x y:Int)(b:Nat)(w:World)(hx:N256 x)(hy:N256 y)(hr:RowsAt w b 0 [x,y])(hb:b<w.heap.size):Calls prog 103 #[.slice (some ⟨b,0,none⟩) 2 2] w fun r w'=>r=.returned (.agg (BA ((x*y)%P255)))∧Below w.heap.size w w':=by
 have:=OW b 0 2 [x,y] w (by simpa using ⟨hx,hy⟩) hr hb (by simp) (by simp) (by simp)
 simpa [CV] using this
theorem AbZ(x y z:Int)(b:Nat)(w:World)(hx:N256 x)(hy:N256 y)(hz:N256 z)(hr:RowsAt w b 0 [x,y,z])(hb:b<w.heap.size):Calls prog 103 #[.slice (some ⟨b,0,none⟩) 3 3] w fun r w'=>r=.returned (.agg (BA ((x*(y*z))%P255)))∧Below w.heap.size w w':=by
 have:=OW b 0 3 [x,y,z] w (by simpa using ⟨hx,hy,hz⟩) hr hb (by simp) (by simp) (by simp)
 simpa [CV] using this
theorem Iq{a:Act}{o:Oper}{w:World}(i:Nat)(c:Int)(ho:o.op=.build 22 #[(i,.const (.int .u8 c))])(n:Int)(h:(Instr.build 22 #[(i,.int .u8 c)]).run prog w=.ok (.agg (BA n)) w):(execOp a.eval o).run prog w=.ok (.value (.agg (BA n))) w:=by
 unfold execOp;simp only[ho,Acs,Acu,Acq,Act.eval,Sem.run_bind,h,Result.andThen_ok,Sem.run_pure]
theorem Ae{P:Program}{ops:Array Oper}{Q:Exit→Act→World→Prop}{a:Act}{w:World}{rest:List Oper}{o:Oper}{v:Value}(hw:Region.wanted o (yielded ops a.tmps)=true)(hr:(execOp a.eval o).run P w=.ok (.value v) w)(h:wpList P ops Q rest (a.put o.dst v) w):wpList P ops Q (o::rest) a w:=by
 unfold wpList;rw[if_pos hw];exact .inl (by unfold Oper.wp;rw[hr];exact h)
theorem Wx(w:World):(Instr.build 22 #[(0,.int .u8 1)]).run prog w=.ok (.agg (BA 1)) w:=by kernel_rfl
def W255:Int:=57896044618658097711785492504343953926634992332820282019728792003956564819968
theorem Hj(n:Int)(i k:Nat)(h:i<k):byt (n%256 ^ k) i=byt n i:=by
 unfold byt;obtain⟨m,rfl⟩:∃m,k=i+1+m:=⟨k-(i+1),by omega⟩;have hp:(0:Int)<256 ^ i:=Int.pow_pos (by decide);have e:(256:Int) ^ (i+1+m)=256 ^ i*(256*256 ^ m):=by rw[Ac2,Ac2];simp[Acn]
 rw[e]
 have hq:n%(256 ^ i*(256*256 ^ m))=n-256 ^ i*(256*256 ^ m)*(n/(256 ^ i*(256*256 ^ m))):=by
  have:=Int.emod_add_mul_ediv n (256 ^ i*(256*256 ^ m));omega
 rw[hq,show n-256 ^ i*(256*256 ^ m)*(n/(256 ^ i*(256*256 ^ m)))=n+256 ^ i*(-(256*256 ^ m*(n/(256 ^ i*(256*256 ^ m))))) by
  rw[Int.mul_neg,←Acn,←Acn,Acn (256 ^ i) 256 (256 ^ m)];omega]
 rw[AcS _ _ (by omega)];generalize n/256 ^ i=A;rw[Acn];generalize 256 ^ m*(n/(256 ^ i*(256*256 ^ m)))=B;omega
theorem Lt{cs:Array Value}{n:Int}(hs:cs.size=32)(h:∀i,i<32→cs[i]?=some (.int .u8 (byt n i))):cs=BA n:=by
 apply AcK;intro i
 by_cases hi:i<32
 ·rw[h i hi,BH _ _ hi]
 ·rw[Acv (by omega),Acv (by rw[Ah];omega)]
theorem YT{n:Int}(i:Nat)(hi:i<31):byt (n%W255) i=byt n i:=by
 have e:n%W255=(n%W255)%256 ^ 31+256 ^ 31*((n%W255)/256 ^ 31):=by have:=Int.emod_add_mul_ediv (n%W255) (256 ^ 31);omega
 rw[←Hj (n%W255) i 31 (by omega),←Hj n i 31 (by omega)];congr 1;unfold W255;omega
theorem Aat{n:Int}:byt (n%W255) 31=byt n 31%128:=by
 unfold byt W255;omega
theorem Wy(n:Int):(BA n).setIfInBounds 31 (.int .u8 (byt n 31%128))=BA (n%W255):=by
 apply Lt
 ·simp[Ah]
 ·intro i hi
  rw[AcI]
  by_cases h:31=i
  ·subst h;simp[Ah,Aat]
  ·rw[if_neg h,BH _ _ hi,YT i (by omega)]
theorem Qw{X b:Int}{k:Nat}(hX0:0≤X)(hX:X<256 ^ k)(hb:BR b)(hk:k<32):(BA X).setIfInBounds k (.int .u8 b)=BA (X+b*256 ^ k):=by
 have hp:∀j:Nat,(0:Int)<256 ^ j:=fun j=>Int.pow_pos (by decide)
 unfold BR at hb;apply Lt
 ·simp[Ah]
 ·intro i hi
  rw[AcI]
  by_cases h:k=i
  ·subst h
   simp only[Ah,hk,if_true];congr 2;unfold byt;rw[Int.add_mul_ediv_right _ _ (by have:=hp k;omega),Int.ediv_eq_zero_of_lt hX0 hX];omega
  ·rw[if_neg h,BH _ _ hi]
   congr 2
   by_cases hlt:i<k
   ·rw[←Hj X i k hlt,←Hj (X+b*256 ^ k) i k hlt,Acy,AcQ]
   ·obtain⟨m,rfl⟩:∃m,i=k+(m+1):=⟨i-k-1,by omega⟩
    unfold byt;rw[Ac2,←AcO (by have:=hp k;omega),←AcO (by have:=hp k;omega),Int.add_mul_ediv_right _ _ (by have:=hp k;omega),Int.ediv_eq_zero_of_lt hX0 hX,Int.zero_add]
    have:b/256 ^ (m+1)=0:=by
     rw[Acr,Acy,←AcO (by decide),show b/256=0 by omega];simp
    rw[this];simp
def val:List Int→Int
 | []=>0
 | d::ds=>d+65536*val ds
theorem CP(k:Nat):(0:Int)<65536 ^ k:=Int.pow_pos (by decide)
theorem Lu(xs ys:List Int):val (xs++ys)=val xs+65536 ^ xs.length*val ys:=by
 induction xs with
 | nil=>simp[val]
 | cons x xs ih =>
  simp only[List.cons_append,val,ih,AcC,Acr];rw[Acw,Acy (65536 ^ xs.length) 65536,Acn];omega
theorem F3(xs:List Int)(d:Int):val (xs++[d])=val xs+65536 ^ xs.length*d:=by
 rw[Lu];simp[val]
theorem Qx{ds:List Int}(h:∀d∈ds,0≤d):0≤val ds:=by
 induction ds with
 | nil=>simp[val]
 | cons x xs ih =>
  have h1:=h x (by simp);have h2:=ih (fun d hd=>h d (by simp[hd]));simp only[val];omega
theorem Aau{ds:List Int}(h:∀d∈ds,0≤d∧d<65536):val ds<65536 ^ ds.length:=by
 induction ds with
 | nil=>simp[val]
 | cons x xs ih =>
  have h1:=h x (by simp);have h2:=ih (fun d hd=>h d (by simp[hd]));simp only[val,AcC,Acr];omega
theorem TH(n:Nat):val (List.replicate n 0)=0:=by
 induction n with
 | zero=>rfl
 | succ n ih=>simp[List.replicate_succ,val,ih]
theorem Eg(ds:List Int)(k:Nat)(h:k<ds.length):val (ds.take (k+1))=val (ds.take k)+65536 ^ k*ds.getD k 0:=by
 rw[List.take_succ_eq_append_getElem h,F3,AcF,Nat.min_eq_left (by omega)];simp[h]
theorem FU(ds:List Int)(k:Nat)(d:Int)(h:k<ds.length):val (ds.set k d)=val ds+65536 ^ k*(d-ds.getD k 0):=by
 induction ds generalizing k with
 | nil=>simp at h
 | cons x xs ih =>
  cases k with
  | zero=>simp[val];omega
  | succ k =>
   have hk:k<xs.length:=by simpa using h
   simp only[Ach,val,ih k hk,List.getD_cons_succ,Acr];rw[Acw,Acy (65536 ^ k) 65536,Acn];omega
theorem Wz{ds:List Int}{k:Nat}(h:k<ds.length):ds.getD k 0∈ds:=by
 simp[h]
theorem Ch(ds:List Int)(k j:Nat)(d:Int)(h:k<ds.length):(ds.set k d).getD j 0=if j=k then d else ds.getD j 0:=by
 by_cases e:j=k
 ·subst e;simp[h]
 ·have:k≠j:=fun h=>e h.symm
  simp[List.getD,e,List.getElem?_set_ne this]
theorem F4(ds:List Int)(k:Nat)(h:k≤ds.length):val ds=val (ds.take k)+65536 ^ k*val (ds.drop k):=by
 conv=>lhs;rw[←List.take_append_drop k ds]
 rw[Lu,AcF,Nat.min_eq_left h]
def Dgs(m:Int)(ds:List Int):Prop:=∀d∈ds,0≤d∧d<m
theorem Dgs.at{m:Int}{ds:List Int}(h:Dgs m ds)(hm:0<m)(k:Nat):0≤ds.getD k 0∧ds.getD k 0<m:=by
 by_cases hk:k<ds.length
 ·exact h _ (Wz hk)
 ·simp[List.getD,Ac7 (Nat.le_of_not_lt hk),hm]
theorem Dgs.of{m:Int}{ds:List Int}(h:∀k,k<ds.length→0≤ds.getD k 0∧ds.getD k 0<m):Dgs m ds:=by
 intro d hd;obtain⟨k,hk,rfl⟩:=List.getElem_of_mem hd
 simpa [hk] using h k hk
theorem Dgs.snoc{m:Int}{ds:List Int}(h:Dgs m ds){d:Int}(h0:0≤d)(h1:d<m):Dgs m (ds++[d]):=by
 intro x hx
 rcases List.mem_append.1 hx with hx | hx
 ·exact h x hx
 ·simp at hx;subst hx;exact⟨h0,h1⟩
theorem Dgs.mono{m n:Int}{ds:List Int}(h:Dgs m ds)(hmn:m≤n):Dgs n ds:=fun d hd=>⟨(h d hd).1,by have:=(h d hd).2;omega⟩
theorem Dgs.take{m:Int}{ds:List Int}(h:Dgs m ds)(k:Nat):Dgs m (ds.take k):=fun d hd=>h d (List.mem_of_mem_take hd)
theorem Dgs.drop{m:Int}{ds:List Int}(h:Dgs m ds)(k:Nat):Dgs m (ds.drop k):=fun d hd=>h d (List.mem_of_mem_drop hd)
theorem Dgs.nonneg{m:Int}{ds:List Int}(h:Dgs m ds):0≤val ds:=Qx (fun d hd=>(h d hd).1)
theorem Dgs.lt{ds:List Int}(h:Dgs 65536 ds):val ds<65536 ^ ds.length:=Aau h
theorem FV{a b:Nat}(h:a≤b):(65536:Int) ^ a≤65536 ^ b:=by
 obtain⟨c,rfl⟩:=Nat.exists_eq_add_of_le h;have h1:=CP c;have h2:=CP a;rw[Ac2]
 calc (65536:Int) ^ a=65536 ^ a*1:=by rw[Int.mul_one]
  _≤65536 ^ a*65536 ^ c:=Ac9 (by omega) (Ac4 h2)
theorem Lv{a b:Nat}(h:(65536:Int) ^ a<65536 ^ b):a<b:=by
 by_cases hb:b≤a
 ·have:=FV hb;omega
 ·omega
structure Car (ds:List Int) (k:Nat) (c:Int) (es:List Int):Prop where
 len:es.length=k
 dgs:Dgs 65536 es
 c0:0≤c
 c1:c<4398046511104
 num:val es+65536 ^ k*c=val (ds.take k)
 top:k≤ds.length∨65536 ^ (k-1)≤val ds
 k44:k≤44
theorem Car.start(ds:List Int):Car ds 0 0 []:=⟨rfl,fun d hd=>by simp at hd,by omega,by omega,by simp[val],.inl (Nat.zero_le _),by omega⟩
theorem Car.step{ds:List Int}{k:Nat}{c:Int}{es:List Int}(h:Car ds k c es)(hd:Dgs 4398046511104 ds)(hl:ds.length≤44)(hk:k<ds.length):Car ds (k+1) ((c+ds.getD k 0)/65536) (es++[(c+ds.getD k 0)%65536]):=by
 have hx:=hd.at (by omega) k;have h0:=h.c0;have h1:=h.c1;refine⟨by simp[h.len],h.dgs.snoc (by omega) (by omega),by omega,by omega,?_,.inl hk,by omega⟩;rw[F3,Eg ds k hk,←h.num,h.len,Acr];have e:c+ds.getD k 0=(c+ds.getD k 0)%65536+65536*((c+ds.getD k 0)/65536):=by omega
 rw[Int.add_assoc,Int.add_assoc,Acn,←Acw,←Acw,←e]
theorem Car.over{ds:List Int}{k:Nat}{c:Int}{es:List Int}(h:Car ds k c es)(hv:val ds<65536 ^ 44)(hk:ds.length≤k)(hc:0<c):Car ds (k+1) (c/65536) (es++[c%65536]):=by
 have h0:=h.c0;have h1:=h.c1;have hval:=h.num;rw[AcD hk] at hval;have hp:=CP k;have hes:=h.dgs.nonneg
 have hle:(65536:Int) ^ k≤val ds:=by
  have:(65536:Int) ^ k*1≤65536 ^ k*c:=Ac9 (by omega) (Ac4 hp);omega
 have hk44:k<44:=Lv (Int.lt_of_le_of_lt hle hv);refine⟨by simp[h.len],h.dgs.snoc (by omega) (by omega),by omega,by omega,?_,.inr (by simpa using hle),by omega⟩;rw[F3,AcD (by omega),←hval,h.len,Acr];have e:c=c%65536+65536*(c/65536):=by omega
 rw[Int.add_assoc,Acn,←Acw,←e]
structure Cared (ds es:List Int):Prop where
 dgs:Dgs 65536 es
 num:val es=val ds
 l16:16≤es.length
 l44:es.length≤44
 top:es.length≤max 16 ds.length∨65536 ^ (es.length-1)≤val ds
structure Pad (ds es:List Int):Prop where
 dgs:Dgs 65536 es
 num:val es=val ds
 l44:es.length≤44
 top:es.length≤max 16 ds.length∨65536 ^ (es.length-1)≤val ds
theorem Car.done{ds:List Int}{k:Nat}{es:List Int}(h:Car ds k 0 es)(hk:ds.length≤k):Pad ds es:=by
 have hval:=h.num;rw[AcD hk] at hval;refine⟨h.dgs,by simpa using hval,by rw[h.len];exact h.k44,?_⟩;rw[h.len]
 rcases h.top with h | h
 ·exact .inl (by omega)
 ·exact .inr h
theorem Pad.zero{ds es:List Int}(h:Pad ds es)(hl:es.length<16):Pad ds (es++[0]):=
 ⟨h.dgs.snoc (by omega) (by omega),by rw[F3,h.num];omega,by simp;omega,.inl (by simp;omega)⟩
theorem Pad.done{ds es:List Int}(h:Pad ds es)(hl:16≤es.length):Cared ds es:=⟨h.dgs,h.num,hl,h.l44,h.top⟩
structure Fold (X:List Int) (j m:Nat) (ys:List Int):Prop where
 l16:16≤ys.length
 lj:j≤ys.length
 lm:ys.length≤max 16 m
 num:val ys=val (X.take 16)+38*val ((X.drop 16).take j)
 lo:∀k,0≤ys.getD k 0∧ys.getD k 0<2621440
 hi:∀k,j≤k→ys.getD k 0<65536
theorem Fold.start{X:List Int}(hd:Dgs 65536 X)(hl:16≤X.length):Fold X 0 0 (X.take 16):=
 ⟨by simp;omega,Nat.zero_le _,by simp;omega,by simp[val],fun k=>((hd.take 16).mono (by omega:(65536:Int)≤2621440)).at (by omega) k,fun k _=>((hd.take 16).at (by omega) k).2⟩
theorem Fold.wide{X:List Int}{j:Nat}{ys:List Int}(h:Fold X j j ys):Fold X j (j+1) ys:=⟨h.l16,h.lj,by have:=h.lm;omega,h.num,h.lo,h.hi⟩
theorem Lw(ys:List Int)(k:Nat):(ys++[0]).getD k 0=ys.getD k 0:=by
 simp only[List.getD,List.getElem?_append]
 by_cases h:k<ys.length
 ·simp[h]
 ·rw[if_neg h,Ac7 (Nat.le_of_not_lt h)]
  cases e:k-ys.length<;>simp
theorem Fold.zero{X:List Int}{j:Nat}{ys:List Int}(h:Fold X j (j+1) ys)(hl:ys.length≤j):Fold X j (j+1) (ys++[0]):=by
 have h1:=h.lj;have h2:=h.l16;refine⟨by simp;omega,by simp;omega,by simp;omega,by rw[F3,h.num];omega,fun k=>by rw[Lw];exact h.lo k,fun k hk=>by rw[Lw];exact h.hi k hk⟩
theorem Fold.step{X:List Int}{j:Nat}{ys:List Int}(h:Fold X j (j+1) ys)(hd:Dgs 65536 X)(hl:j<ys.length)(hj:j+16<X.length):Fold X (j+1) (j+1) (ys.set j (ys.getD j 0+38*X.getD (16+j) 0)):=by
 have hx:=hd.at (by omega) (16+j);have h0:=h.lo j;have h1:=h.hi j (Acg _);have h2:=h.l16;have h3:=h.lm;have eX:(X.drop 16).getD j 0=X.getD (16+j) 0:=by simp[List.getD]
 refine⟨by simp;omega,by simp;omega,by simp;omega,?_,fun k=>?_,fun k hk=>?_⟩
 ·rw[FU _ _ _ hl,h.num,Eg _ j (by simp;omega),eX,Acw 38,Int.add_comm (ys.getD j 0),Int.add_sub_cancel,←Acn 38,Acy 38 (65536 ^ j),Acn,Int.add_assoc]
 ·rw[Ch _ _ _ _ hl]
  split
  ·omega
  ·exact h.lo k
 ·rw[Ch _ _ _ _ hl,if_neg (by omega)]
  exact h.hi k (by omega)
theorem Aav:(65536:Int) ^ 16=38+2*P255:=by decide +kernel
structure Rst (n:Int) (X:List Int):Prop where
 dgs:Dgs 65536 X
 l16:16≤X.length
 l44:X.length≤44
 num:val X%P255=n%P255
theorem Rst.start{ds es:List Int}(h:Cared ds es):Rst (val ds) es:=⟨h.dgs,h.l16,h.l44,by rw[h.num]⟩
theorem Rst.lt44{n:Int}{X:List Int}(h:Rst n X):val X<65536 ^ 44:=Int.lt_of_lt_of_le h.dgs.lt (FV h.l44)
theorem Fold.val_end{X ys:List Int}(h:Fold X (X.length-16) (X.length-16) ys)(hl:16≤X.length):val X=val ys+2*P255*val (X.drop 16):=by
 rw[F4 X 16 hl,h.num,AcD (l:=X.drop 16) (i:=X.length-16) (by simp),Aav,Int.add_mul];omega
theorem Rst.fold_pre{n:Int}{X ys:List Int}(h:Rst n X)(f:Fold X (X.length-16) (X.length-16) ys):Dgs 4398046511104 ys∧ys.length≤44∧val ys<65536 ^ 44:=by
 have h1:=f.lm;have h2:=h.l44;have h3:=f.val_end h.l16;have h4:=(h.dgs.drop 16).nonneg;have h5:=h.lt44;have hP:(0:Int)≤2*P255:=by decide +kernel
 have h6:=Int.mul_nonneg hP h4;exact⟨Dgs.of fun k _=>⟨(f.lo k).1,by have:=(f.lo k).2;omega⟩,by omega,by omega⟩
theorem Rst.fold{n:Int}{X ys es:List Int}(h:Rst n X)(hl:16<X.length)(f:Fold X (X.length-16) (X.length-16) ys)(c:Cared ys es):Rst n es∧(val es).toNat*100+es.length<(val X).toNat*100+X.length:=by
 have h3:=f.val_end h.l16;have h4:=(h.dgs.drop 16).nonneg;have h5:=h.l44;have h6:=c.l44;refine⟨⟨c.dgs,c.l16,c.l44,?_⟩,?_⟩
 ·rw[←h.num,c.num,h3,Acy 2 P255,Acn,AcQ]
 ·by_cases hz:val (X.drop 16)=0
  ·rw[hz,Int.mul_zero,Int.add_zero] at h3
   have ht:val X<65536 ^ 16:=by
    rw[F4 X 16 h.l16,hz,Int.mul_zero,Int.add_zero];have:=(h.dgs.take 16).lt
    rwa [AcF,Nat.min_eq_left h.l16] at this
   have hs:es.length<X.length:=by
    rcases c.top with t | t
    ·have:=f.lm;omega
    ·have:=Lv (Int.lt_of_le_of_lt t (by rw[←h3];exact ht));omega
   rw[c.num,←h3];omega
  ·have h7:2*P255*1≤2*P255*val (X.drop 16):=Ac9 (by omega) (by decide +kernel)
   have h8:(1:Int)≤2*P255*1:=by decide +kernel
   have h9:=c.dgs.nonneg;have h10:val es<val X:=by rw[c.num];omega
   omega
def fold15(X:List Int):List Int:=(X.set 0 (X.getD 0 0+19*(X.getD 15 0/32768))).set 15 (X.getD 15 0%32768)
theorem p15:(65536:Int) ^ 15*32768=P255+19:=by decide +kernel
theorem Lx(X:List Int):(fold15 X).length=X.length:=by simp[fold15]
theorem Ly{X:List Int}(hd:Dgs 65536 X)(hl:X.length=16)(h:32768≤X.getD 15 0):val (fold15 X)=val X-P255:=by
 have h1:=hd.at (by omega) 15;have hq:X.getD 15 0/32768=1:=by omega
 have hr:X.getD 15 0%32768=X.getD 15 0-32768:=by omega
 unfold fold15;rw[FU _ _ _ (by simp;omega),FU _ _ _ (by omega),Ch _ _ _ _ (by omega),if_neg (by omega),hq,hr];have e:X.getD 15 0-32768-X.getD 15 0=-32768:=by omega
 rw[e,Int.mul_neg,p15];omega
theorem Qy{n:Int}{X:List Int}(r:Rst n X)(hl:X.length=16)(h:32768≤X.getD 15 0):Dgs 4398046511104 (fold15 X)∧val (fold15 X)<65536 ^ 44:=by
 have h0:=r.dgs.at (by omega) 0;have h1:=r.dgs.at (by omega) 15;have h2:=Ly r.dgs hl h;have h3:=r.lt44;have hP:(0:Int)≤P255:=by decide +kernel
 refine⟨Dgs.of fun k _=>?_,by omega⟩;unfold fold15;rw[Ch _ _ _ _ (by simp;omega),Ch _ _ _ _ (by omega)];have h4:=r.dgs.at (by omega) k
 split
 ·omega
 ·split
  ·omega
  ·omega
theorem Rst.fold15{n:Int}{X es:List Int}(r:Rst n X)(hl:X.length=16)(h:32768≤X.getD 15 0)(c:Cared (fold15 X) es):Rst n es∧es.length=16∧(val es).toNat<(val X).toNat:=by
 have h2:=Ly r.dgs hl h;have hP:(0:Int)<P255:=by decide +kernel
 have h3:=r.dgs.lt;have h9:=c.dgs.nonneg;have hc:=c.num;have h16:=c.l16;rw[hl] at h3;refine⟨⟨c.dgs,c.l16,c.l44,?_⟩,?_,by omega⟩
 ·rw[c.num,h2,←r.num,Int.sub_emod_right]
 ·rcases c.top with t | t
  ·rw[Lx] at t;omega
  ·have:=Lv (Int.lt_of_le_of_lt t (by omega:val (Proofs.YthghcjepdhkfdaaGreatDoor.Fld.fold15 X)<65536 ^ 16));omega
theorem map_set{f g:Nat→Int}{n i:Nat}(_hi:i<n)(h:∀j,j<n→j≠i→f j=g j):((Aco n).map f).set i (g i)=(Aco n).map g:=by
 apply List.ext_getElem
 ·simp
 ·intro j h1 h2
  simp at h1 h2;rw[List.getElem_set]
  split
  ·rename_i e;subst e;simp
  ·rename_i e;simp;exact h j h2 (fun h=>e h.symm)
theorem GH(f:Nat→Int){n i:Nat}(hi:i<n):((Aco n).map f).getD i 0=f i:=by
 simp[List.getD,hi]
theorem OY{X:List Int}{n:Nat}(hl:X.length=n):(Aco n).map (fun j=>X.getD j 0)=X:=by
 subst hl;apply List.ext_getElem
 ·simp
 ·intro j h1 h2;simp[List.getD,h2]
theorem NY{X:List Int}(h:X.length=16):∃d0 d1 d2 d3 d4 d5 d6 d7 d8 d9 d10 d11 d12 d13 d14 d15,X=[d0,d1,d2,d3,d4,d5,d6,d7,d8,d9,d10,d11,d12,d13,d14,d15]:=by
 match X,h with
 | [d0,d1,d2,d3,d4,d5,d6,d7,d8,d9,d10,d11,d12,d13,d14,d15],_=>exact⟨d0,d1,d2,d3,d4,d5,d6,d7,d8,d9,d10,d11,d12,d13,d14,d15,rfl⟩
theorem OZ{X:List Int}(hd:Dgs 65536 X)(hl:X.length=16)(h15:X.getD 15 0<32768)(j:Nat)(hj1:1≤j)(hj:j<15)(hx:X.getD j 0≠65535):val X<P255:=by
 -- what lies above j is at most as great as p's
 have hs:=F4 X (j+1) (by omega);have ht:=Eg X j (by omega);have hlo:=(hd.take j).lt;rw[AcF,hl,Nat.min_eq_left (by omega)] at hlo;have hjb:=hd.at (by omega) j
 have hup:val (X.drop (j+1))+1≤65536 ^ (14-j)*32768:=by
  have h1:=F4 (X.drop (j+1)) (14-j) (by simp;omega);have h2:=((hd.drop (j+1)).take (14-j)).lt;rw[AcF,List.length_drop,hl,Nat.min_eq_left (by omega)] at h2;rw[List.drop_drop,show j+1+(14-j)=15 by omega] at h1
  have h3:X.drop 15=[X.getD 15 0]:=by
   apply List.ext_getElem
   ·simp;omega
   ·intro i a b
    simp at a b;have:i=0:=by omega
    subst this;simp[List.getD,hl]
  rw[h3] at h1;simp only[val,Int.mul_zero,Int.add_zero] at h1;have h4:(65536:Int) ^ (14-j)*X.getD 15 0≤65536 ^ (14-j)*32767:=Ac9 (by omega) (Ac4 (CP _));omega
 have hp1:=CP (j+1);have hm:(65536:Int) ^ (j+1)*(val (X.drop (j+1))+1)≤65536 ^ (j+1)*(65536 ^ (14-j)*32768):=Ac9 hup (Ac4 hp1);rw[←Acn,←Ac2,show j+1+(14-j)=15 by omega,p15,Acw,Int.mul_one] at hm;have hpj:=CP j;have hm2:(65536:Int) ^ j*X.getD j 0≤65536 ^ j*65534:=Ac9 (by omega) (Ac4 hpj);have e1:(65536:Int) ^ (j+1)=65536 ^ j*65536:=Acr _ _;have hj1':(65536:Int) ^ 1≤65536 ^ j:=FV hj1;omega
theorem JC{X:List Int}(hl:X.length=16)(h:∀j,1≤j→j<15→X.getD j 0=65535):val X=X.getD 0 0-65536+65536 ^ 15*(1+X.getD 15 0):=by
 obtain⟨d0,d1,d2,d3,d4,d5,d6,d7,d8,d9,d10,d11,d12,d13,d14,d15,rfl⟩:=NY hl;have h1:=h 1 (by omega) (by omega);have h2:=h 2 (by omega) (by omega);have h3:=h 3 (by omega) (by omega);have h4:=h 4 (by omega) (by omega);have h5:=h 5 (by omega) (by omega);have h6:=h 6 (by omega) (by omega);have h7:=h 7 (by omega) (by omega);have h8:=h 8 (by omega) (by omega);have h9:=h 9 (by omega) (by omega);have h10:=h 10 (by omega) (by omega);have h11:=h 11 (by omega) (by omega);have h12:=h 12 (by omega) (by omega);have h13:=h 13 (by omega) (by omega);have h14:=h 14 (by omega) (by omega);simp[List.getD] at h1 h2 h3 h4 h5 h6 h7 h8 h9 h10 h11 h12 h13 h14;subst h1 h2 h3 h4 h5 h6 h7 h8 h9 h10 h11 h12 h13 h14;simp only[val,List.getD,List.getElem?_cons_zero,List.getElem?_cons_succ,Option.getD_some,AcA];omega
theorem MV{X:List Int}(hd:Dgs 65536 X)(hl:X.length=16)(h15:X.getD 15 0<32768)(h:∀j,1≤j→j<15→X.getD j 0=65535):(X.getD 15 0=32767∧65517≤X.getD 0 0)↔P255≤val X:=by
 have e:=JC hl h;have h0:=hd.at (by omega) 0;have h1:=hd.at (by omega) 15;simp only[AcA] at e;unfold P255;omega
def CW(X:List Int)(i:Nat):List Int:=(Aco 16).map fun j=>if j<i then (if j=0 then X.getD 0 0-65517 else 0) else X.getD j 0
theorem JD(X:List Int)(i:Nat):(CW X i).length=16:=by simp[CW]
theorem Qz{X:List Int}(hl:X.length=16):CW X 0=X:=by
 unfold CW;simp only[Nat.not_lt_zero,if_false];exact OY hl
theorem TI(X:List Int){i:Nat}(hi:i<16):(CW X i).getD i 0=X.getD i 0:=by
 unfold CW;rw[GH _ hi];simp
theorem TJ(X:List Int){i:Nat}(hi:i<16):(CW X i).set i (if i=0 then X.getD 0 0-65517 else 0)=CW X (i+1):=by
 unfold CW;have:=@map_set (fun j=>if j<i then (if j=0 then X.getD 0 0-65517 else 0) else X.getD j 0) (fun j=>if j<i+1 then (if j=0 then X.getD 0 0-65517 else 0) else X.getD j 0) 16 i hi
  (fun j _ hne=>by by_cases h:j<i<;>simp[h,show j<i+1↔j<i by omega])
 simpa using this
theorem TK(X:List Int):val (CW X 16)=X.getD 0 0-65517:=by
 simp[CW,Aco,List.range.loop,val]
theorem TL{X:List Int}(hd:Dgs 65536 X)(hl:X.length=16)(h15:X.getD 15 0<32768)(h:P255≤val X):val (CW X 16)=val X-P255∧Dgs 65536 (CW X 16):=by
 have ha:∀j,1≤j→j<15→X.getD j 0=65535:=fun j h1 h2=>by
  by_cases e:X.getD j 0=65535
  ·exact e
  ·have:=OZ hd hl h15 j h1 h2 e;omega
 have hy:=(MV hd hl h15 ha).2 h;have e:=JC hl ha;have h0:=hd.at (by omega) 0;refine⟨?_,Dgs.of fun k hk=>?_⟩
 ·rw[TK,e,hy.1];simp only[AcA];unfold P255;omega
 ·rw[JD] at hk
  unfold CW;rw[GH _ hk,if_pos hk]
  split<;>omega
theorem YU{X:List Int}(hd:Dgs 65536 X)(hl:X.length=16)(h15:X.getD 15 0<32768):val X<P255+19:=by
 have h1:=F4 X 15 (by omega);have h2:=(hd.take 15).lt;rw[AcF,hl,Nat.min_eq_left (by omega)] at h2
 have h3:X.drop 15=[X.getD 15 0]:=by
  apply List.ext_getElem
  ·simp;omega
  ·intro i a b
   simp at a b;have:i=0:=by omega
   subst this;simp[List.getD,hl]
 rw[h3] at h1;simp only[val,Int.mul_zero,Int.add_zero] at h1;simp only[AcA] at h1 h2;unfold P255;omega
theorem W9(i:Nat):(256:Int) ^ (2*i)=65536 ^ i:=by rw[Int.pow_mul];rfl
theorem Lz{X:List Int}(hd:Dgs 65536 X){i:Nat}(hl:X.length=16)(hi:i<16):((BA (val (X.take i))).setIfInBounds (2*i) (.int .u8 (X.getD i 0%256))).setIfInBounds (2*i+1) (.int .u8 (X.getD i 0/256))=BA (val (X.take (i+1))):=by
 have h1:=(hd.take i).lt;rw[AcF,hl,Nat.min_eq_left (by omega)] at h1;have h0:=(hd.take i).nonneg;have hx:=hd.at (by omega) i;have hp:=CP i;have hpx:0≤X.getD i 0%256*65536 ^ i:=Int.mul_nonneg (by omega) (Ac4 hp);have hpx2:X.getD i 0%256*65536 ^ i≤255*65536 ^ i:=AcT (by omega) (Ac4 hp);rw[Qw h0 (by rw[W9];exact h1) (by unfold BR;omega) (by omega),W9];rw[Qw (by omega) (by rw[Acr,W9];omega) (by unfold BR;omega) (by omega)];congr 1;rw[Eg X i (by omega),Acr,W9,Int.add_assoc];congr 1;have e:X.getD i 0=X.getD i 0%256+X.getD i 0/256*256:=by omega
 conv=>rhs;rw[e]
 rw[Acw,Acy (65536 ^ i) (X.getD i 0%256),Int.mul_left_comm (65536 ^ i) (X.getD i 0/256) 256]
def LD(n:Int)(i:Nat):List Int:=(Aco 16).map fun j=>if j<i then n/65536 ^ j%65536 else 0
theorem Do(n:Int)(i:Nat):(LD n i).length=16:=by simp[LD]
theorem Aaw(n:Int){i:Nat}(hi:i<16):(LD n i).set i (byt n (2*i)+256*byt n (2*i+1))=LD n (i+1):=by
 have e:byt n (2*i)+256*byt n (2*i+1)=n/65536 ^ i%65536:=by
  unfold byt;rw[Acr,W9,←AcO (Ac4 (CP i))];omega
 rw[e];unfold LD;have:=@map_set (fun j=>if j<i then n/65536 ^ j%65536 else 0) (fun j=>if j<i+1 then n/65536 ^ j%65536 else 0) 16 i hi
  (fun j _ hne=>by by_cases h:j<i<;>simp[h,show j<i+1↔j<i by omega])
 simpa using this
theorem Fq(n:Int)(i:Nat):Dgs 65536 (LD n i):=Dgs.of fun k hk=>by
 rw[Do] at hk;unfold LD;rw[GH _ hk]
 split<;>omega
theorem TM(n:Int)(k:Nat):val ((Aco k).map fun j=>n/65536 ^ j%65536)=n%65536 ^ k:=by
 induction k with
 | zero=>simp[val,Int.emod_one]
 | succ k ih =>
  rw[List.range_succ,List.map_append,Acu,Acq,F3,ih,List.length_map,List.length_range,Acr];rw[Int.emod_def n (65536 ^ k),Int.emod_def n (65536 ^ k*65536),←AcO (Ac4 (CP k)),Int.emod_def (n/65536 ^ k) 65536,Int.mul_sub,←Acn (65536 ^ k) 65536];omega
theorem Ir{n:Int}(h0:0≤n)(h1:n<Bm):val (LD n 16)=n:=by
 have e:LD n 16=(Aco 16).map fun j=>n/65536 ^ j%65536:=by
  unfold LD;apply List.map_congr_left;intro j hj;rw[if_pos (List.mem_range.1 hj)]
 rw[e,TM];exact AcN h0 (by simp only[AcA];unfold Bm at h1;exact h1)
end Go.Proofs.YthghcjepdhkfdaaGreatDoor.Fld
