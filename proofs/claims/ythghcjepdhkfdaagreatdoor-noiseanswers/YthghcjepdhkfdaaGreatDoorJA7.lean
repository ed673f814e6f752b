/-
  Own text. The document's answer for noise: sealing, opening, the beginning, numbers.
-/
import Derived.Test.YthghcjepdhkfdaaGreatDoorJA6
import Derived.Test.YthghcjepdhkfdaaGreatDoorJA2
import Derived.OrdersHeld
import Derived.Laws.World
import Derived.Deep.MidRow
import Derived.ChangeKeysEq
import Derived.Deep.QuietTactic
import Derived.BigQuiet
set_option maxHeartbeats 16000000
set_option maxRecDepth 100000
open Array renaming ext_getElem?→Adh,getElem?_append_left→Adg,getElem?_eq_none→AcI,getElem?_setIfInBounds→Adf,length_toList→Add0
open Bool renaming and_eq_true→AcB
open Int renaming add_mul_ediv_left→Adp,add_mul_emod_self_left→Adn,ediv_ediv_of_nonneg→Adl,emod_eq_of_lt→Adk,eq_ofNat_of_zero_le→AcQ,le_of_lt→AcR,mul_add→AcK,mul_assoc→AcC,mul_comm→AcL,mul_le_mul_of_nonneg_left→AcX,mul_le_mul_of_nonneg_right→Adq,pow_add→AcO,pow_succ→AcF,reducePow→AcY,toNat_natCast→AcZ
open List renaming getElem?_eq_none→AcV,length_cons→Ada,length_take→AcT,map_cons→AcG,map_nil→AcD,map_toArray→AcH,range→AcA,setIfInBounds_toArray→Ac6,set_cons_succ→Ac5,set_cons_zero→Ac7,take_of_length_le→Adc
open Nat renaming add_zero→AcU,le_refl→Ac4,lt_or_ge→AcS,zero_add→Ac9
namespace Go.Proofs.YthghcjepdhkfdaaGreatDoor
open Go.RowKit Go.Proofs
open Tryz
def Cu:Nat→Int:=MJ (AJ 0)
theorem Lj:Byts 12 Cu:=YU (fun i _=>Es 0 i)
theorem Aa6(b k:Nat)(w:World):k<2→(Instr.fieldAt 84 (.pointer (some ⟨b,0,none⟩)) k).run prog w=.ok (.pointer (some ⟨b,[0,32].getD k 0,none⟩)) w:=by
 intro hk
 match k,hk with
 | 0,_=>simp[go_sem]
 | 1,_=>simp[go_sem]
theorem OP{a:Act}{o:Oper}{w:World}{x:Operand}(ho:o.op=.fieldAddr 84 x 0){b:Nat}(hx:a.eval x=.pointer (some ⟨b,0,none⟩)):(execOp a.eval o).run prog w=.ok (.value (.pointer (some ⟨b,0,none⟩))) w:=by
 have h:=Aa6 b 0 w (by decide);unfold execOp;simp only[ho,hx,Sem.run_bind,h,Result.andThen_ok,Sem.run_pure];rfl
theorem Qs(b:Nat)(k H C:Nat→Int)(s:ByteArray)(w:World)(g:StAt w b H C)(hk:Byts 32 k)(hH:Byts 32 H)(hs:s.size≤140737488355328):Calls prog 43 #[.pointer (some ⟨b,0,none⟩),.agg (WA .u8 32 k),.string s] w fun e w'=>e=.returned (.string (Et k Cu s (mkS 32 H)))∧StAt w' b (Dk H (Et k Cu s (mkS 32 H))) C∧Touch (fun x=>x=b) w w':=by
 have g0:ArrAt (w.alloc (.cells (WA .u8 32 k) 22)) w.heap.size .u8 22 32 k:=heap_alloc_new w _;have hBa:Below w.heap.size w (w.alloc (.cells (WA .u8 32 k) 22)):=(Below.refl _ w).alloc (Ac4 _) _;have g1:=g.kept hBa;have ht:=CZ b hBa;have HZ:=Hid.mk (fun u=>TD k Cu s (mkS 32 H) u hk Lj hs (by rw[At];omega));have hzs:(Et k Cu s (mkS 32 H)).size≤s.size+16:=by rw[EI];exact Ac4 _
 have hMX:=fun u g=>Hb b H C (Et k Cu s (mkS 32 H)) u g hH (by omega)
 have HH:=Hid.mk hH;generalize Et k Cu s (mkS 32 H)=Z at *;clear g hBa;go_enter func43,ntmps43;go_wp2_with fail;refine AH (fun v=>ArrAt v w.heap.size .u8 22 32 k∧StAt v b H C∧Touch (fun x=>x=b) w v) ⟨g0,g1,ht⟩ ?_;clear g0 g1 ht;rintro v0 ⟨g0,g1,ht⟩;have HK:Hid (∀u,Below v0.heap.size v0 u→ArrAt u w.heap.size .u8 22 32 k):=Hid.mk (fun u hu=>g0.kept hu);have HST:Hid (∀u,Below v0.heap.size v0 u→StAt u b H C):=Hid.mk (fun u hu=>g1.kept hu);refine Ai (Below v0.heap.size v0) v0.heap.size
  ([]:List (Nat×Cont))
  [kv (.agg (WA .u8 32 k)),kv (.agg (WA .u8 12 Cu)),kv (.string s),kv (.pointer (some ⟨b,0,none⟩)),kv (.pointer (some ⟨b,0,none⟩)),kv (.pointer (some ⟨b,0,none⟩)),kv (.agg (WA .u8 32 H)),kv (.string (mkS 32 H)),kv (.string Z),kv (.string Z)]
  []
  [some 8,some 9,some 10,some 11,some 12,some 13,some 14,some 15,some 16,some 7]
  [(4,.pointer (some ⟨w.heap.size,0,none⟩)),(2,.string s),(0,.pointer (some ⟨b,0,none⟩))]
  [[],[],[],[],[.slot 3],[.slot 4],[.slot 5],[.slot 6],[.slot 0,.slot 1,.slot 2,.slot 7],[.slot 8]]
  [.slot 9] [8,9,10,11,12,13,14,15,16,7]
  rfl (by kernel_rfl) ⟨rfl,rfl,rfl,trivial⟩ (Below.refl _ v0).drew (Ac4 _) trivial trivial (A6 (Ac4 _) trivial)
  ⟨
   (fun _ _ ww _ hS _ fr _=>sV (Bg rfl Af (HK.out ww hS) fr.1)),
   (fun _ _ ww _ _ _ _ _=>.inl ⟨trivial,fun K hK=>AD JU rfl (BE rfl) (Lh 0 ww (by omega)) (fun w' hb=>hK _ _ ⟨Ad hb,rfl⟩)⟩),
   sL fun f _=>sV (Ab rfl f.2.1),
   sL fun f _=>sV (Ab rfl f.2.2.1),
   sL fun _ k=>sV (AZ rfl k.1),
   sL fun _ k=>sV (OP rfl k.1),
   (fun _ _ ww _ hS _ _ kn=>sV (Al rfl Af kn.1 (HST.out ww hS).h)),
   (fun _ _ ww _ _ _ _ kn=>.inl ⟨trivial,fun K hK=>AD Li rfl (BE kn.1) (DA H ww HH.out) (fun w' hb=>hK _ _ ⟨Ad hb,rfl⟩)⟩),
   (fun _ _ ww _ _ _ _ kn=>.inl ⟨trivial,fun K hK=>AD Qq rfl (Iw kn.1 kn.2.1 kn.2.2.1 kn.2.2.2.1) (HZ.out ww) (fun w' hb=>hK _ _ ⟨Ad hb,rfl⟩)⟩),
   sL fun _ k=>sV (Az rfl k.1),
   trivial⟩ ?_
 intro vs own v5 hB5 hs5 kn inj;clear inj hs5 HK HST;have e7:vs 7=_:=kn.1;clear kn;replace g1:=g1.kept hB5;replace ht:=ht.trans (CZ b hB5);clear hB5 g0;simp only[Ap,Act.put,Ac6,Ac7,Ac5,e7];go_wp2_with fail;refine(hMX _ g1).mono ?_;rintro e v9 ⟨rfl,g9,ht9⟩;replace ht9:=ht.trans ht9;clear ht g1 hMX;go_wp2_with fail
 go_ret
 exact⟨rfl,g9,ht9⟩
theorem Qt(b:Nat)(k H C:Nat→Int)(s:ByteArray)(w:World)(g:StAt w b H C)(hk:Byts 32 k)(hH:Byts 32 H)(hs:s.size≤140737488355328):Calls prog 48 #[.pointer (some ⟨b,0,none⟩),.agg (WA .u8 32 k),.string s] w fun e w'=>e=.returned (.tuple #[.string (Cg k Cu s (mkS 32 H)).1,.bool (decide ((Cg k Cu s (mkS 32 H)).2=0))])∧StAt w' b (Dk H s) C∧Touch (fun x=>x=b) w w':=by
 have g0:ArrAt (w.alloc (.cells (WA .u8 32 k) 22)) w.heap.size .u8 22 32 k:=heap_alloc_new w _;have hBa:Below w.heap.size w (w.alloc (.cells (WA .u8 32 k) 22)):=(Below.refl _ w).alloc (Ac4 _) _;have g1:=g.kept hBa;have ht:=CZ b hBa;have HZ:=Hid.mk (fun u=>TE k Cu s (mkS 32 H) u hk Lj hs (by rw[At];omega));have hMX:=fun u g=>Hb b H C s u g hH (by omega)
 have HH:=Hid.mk hH;generalize Cg k Cu s (mkS 32 H)=Z at *;clear g hBa;go_enter func48,ntmps48;go_wp2_with fail;refine AH (fun v=>ArrAt v w.heap.size .u8 22 32 k∧StAt v b H C∧Touch (fun x=>x=b) w v) ⟨g0,g1,ht⟩ ?_;clear g0 g1 ht;rintro v0 ⟨g0,g1,ht⟩;have HK:Hid (∀u,Below v0.heap.size v0 u→ArrAt u w.heap.size .u8 22 32 k):=Hid.mk (fun u hu=>g0.kept hu);have HST:Hid (∀u,Below v0.heap.size v0 u→StAt u b H C):=Hid.mk (fun u hu=>g1.kept hu);refine Ai (Below v0.heap.size v0) v0.heap.size
  ([]:List (Nat×Cont))
  [kv (.agg (WA .u8 32 k)),kv (.agg (WA .u8 12 Cu)),kv (.string s),kv (.pointer (some ⟨b,0,none⟩)),kv (.pointer (some ⟨b,0,none⟩)),kv (.pointer (some ⟨b,0,none⟩)),kv (.agg (WA .u8 32 H)),kv (.string (mkS 32 H)),kv (.tuple #[.string Z.1,.int .i64 Z.2]),kv (.tuple #[.string Z.1,.int .i64 Z.2]),kv (.string Z.1),kv (.int .i64 Z.2),kv (.string Z.1),kv (.int .i64 Z.2)]
  []
  [some 11,some 12,some 13,some 14,some 15,some 16,some 17,some 18,some 19,some 10,some 20,some 21,some 8,some 9]
  [(4,.pointer (some ⟨w.heap.size,0,none⟩)),(2,.string s),(0,.pointer (some ⟨b,0,none⟩))]
  [[],[],[],[],[.slot 3],[.slot 4],[.slot 5],[.slot 6],[.slot 0,.slot 1,.slot 2,.slot 7],[.slot 8],[.slot 9],[.slot 9],[.slot 10],[.slot 11]]
  [.slot 12,.slot 13] [11,12,13,14,15,16,17,18,19,10,20,21,8,9]
  rfl (by kernel_rfl) ⟨rfl,rfl,rfl,trivial⟩ (Below.refl _ v0).drew (Ac4 _) trivial trivial (A6 (Ac4 _) trivial)
  ⟨
   (fun _ _ ww _ hS _ fr _=>sV (Bg rfl Af (HK.out ww hS) fr.1)),
   (fun _ _ ww _ _ _ _ _=>.inl ⟨trivial,fun K hK=>AD JU rfl (BE rfl) (Lh 0 ww (by omega)) (fun w' hb=>hK _ _ ⟨Ad hb,rfl⟩)⟩),
   sL fun f _=>sV (Ab rfl f.2.1),
   sL fun f _=>sV (Ab rfl f.2.2.1),
   sL fun _ k=>sV (AZ rfl k.1),
   sL fun _ k=>sV (OP rfl k.1),
   (fun _ _ ww _ hS _ _ kn=>sV (Al rfl Af kn.1 (HST.out ww hS).h)),
   (fun _ _ ww _ _ _ _ kn=>.inl ⟨trivial,fun K hK=>AD Li rfl (BE kn.1) (DA H ww HH.out) (fun w' hb=>hK _ _ ⟨Ad hb,rfl⟩)⟩),
   (fun _ _ ww _ _ _ _ kn=>.inl ⟨trivial,fun K hK=>AD Qr rfl (Iw kn.1 kn.2.1 kn.2.2.1 kn.2.2.2.1) (HZ.out ww) (fun w' hb=>hK _ _ ⟨Ad hb,rfl⟩)⟩),
   sL fun _ k=>sV (Ab rfl k.1),
   sL fun _ k=>sV (CL rfl k.1 rfl),
   sL fun _ k=>sV (CL rfl k.1 rfl),
   sL fun _ k=>sV (Az rfl k.1),
   sL fun _ k=>sV (Az rfl k.1),
   trivial⟩ ?_
 intro vs own v5 hB5 hs5 kn inj;clear inj hs5 HK HST;have e8:vs 8=_:=kn.1;have e9:vs 9=_:=kn.2.1;clear kn;replace g1:=g1.kept hB5;replace ht:=ht.trans (CZ b hB5);clear hB5 g0;simp only[Ap,Act.put,Ac6,Ac7,Ac5,e8,e9];go_wp2_with fail;refine(hMX _ g1).mono ?_;rintro e v9 ⟨rfl,g9,ht9⟩;replace ht9:=ht.trans ht9;clear ht g1 hMX;go_wp2_with fail;exact bodyPost_ret (v:=.tuple #[.string Z.1,.bool (decide (Z.2=0))]) (Co results48 (by rfl) (by first | rfl | (simp;done))) rfl ⟨rfl,g9,ht9⟩
def Ab9:ByteArray:=⟨#[78,111,105,115,101,95,73,75,112,115,107,50,95,50,53,53,49,57,95,67,104,97,67,104,97,80,111,108,121,95,66,76,65,75,69,50,115]⟩
def TF:Nat→Int:=BI Ab9
def YV(t:Nat→Int):Nat→Int:=Dk (Dk TF ⟨#[97,100,105,116,32,49]⟩) (mkS 32 t)
theorem Qu(n:Nat):Byts n TF:=fun i _=>Ib _ i
end Go.Proofs.YthghcjepdhkfdaaGreatDoor
namespace Go.Proofs.YthghcjepdhkfdaaGreatDoor.Fld
open Go.RowKit Go.Proofs
open Tryz
theorem Eb{n:Int}(h0:0≤n)(h1:n<Bj):V4 (Eh n 0) (Eh n 8) (Eh n 16) (Eh n 24)=n:=by
 unfold V4 Eh Bj at *;omega
theorem TG(n:Int)(w:World)(h0:0≤n)(h1:n<Bj):Calls prog 100 #[.agg (BA n)] w fun e w'=>e=.returned (.agg (BA (n%P255)))∧Below w.heap.size w w':=by
 go_enter func100,ntmps100
 go_wp2_with (refine A7 rfl _ rfl _ _ rfl (heap_alloc2_old w _ _) (Ah _) ?_)
 refine(Ei n _).mono ?_;rintro e w1 ⟨rfl,hb1⟩;have g1:=Aj hb1 (heap_alloc2_new w _ _) (by simp<;>omega)
 have hB1:Hid (Below w.heap.size w w1):=by
  refine Below.trans ?_ (hb1.mono (by simp<;>omega))
  repeat first | exact Below.refl _ _ | refine Below.alloc ?_ (by simp<;>omega) _
 clear hb1;go_wp2_with fail;refine(D7 _ _ _ _ _ (AO _ _) (AO _ _) (AO _ _) (AO _ _)).mono ?_;rintro e w2 ⟨rfl,hb2⟩;have g2:=Aj hb2 g1 (Aa g1);have hB2:Hid (Below w.heap.size w w2):=Below.trans hB1.out (hb2.mono hB1.out.size);clear hb2 g1
 go_wp2_with (refine BD rfl _ _ rfl _ _ rfl rfl _ g2 rfl ?_;intro w3 g3 o3)
 refine bodyPost_ret (v:=.agg (BA (n%P255))) ?_ rfl ⟨rfl,Below.trans hB2.out (Only.below (b:=w.heap.size+1) (B:=w.heap.size) o3 (by omega))⟩;rw[Eb h0 h1] at g3;exact results_cell_row rfl _ _ _ _ _ _ _ rfl g3 underlying22 rfl (by rw[Ah];exact Bk)
theorem Wk(n:Int)(h0:-9223372036854775808≤n)(h1:n<0):IntKind.u64.wrap (-IntKind.u64.wrap n)=-n:=by
 rw[IntKind.wrap_u64,IntKind.wrap_u64];omega
theorem Wl(n:Int)(h0:0≤n)(h1:n<9223372036854775808):IntKind.u64.wrap n=n:=by
 rw[IntKind.wrap_u64];omega
theorem NI(n:Int):V4 n 0 0 0=n:=by unfold V4;omega
theorem YW{n z:Int}(h:z=P255-(-n)):z%P255=n%P255:=by
 rw[h,show P255-(-n)=n+P255 by omega,Int.add_emod_right]
theorem J3(n:Int)(w:World)(hP:PrimeAt w)(h0:-9223372036854775808≤n)(h1:n<9223372036854775808):Calls prog 58 #[.int .i64 n] w fun e w'=>e=.returned (.agg (BA (n%P255)))∧Below w.heap.size w w':=by
 have hp0:=Cp hP;have HP:=Hid.mk hP;clear hP
 by_cases hn:n<0
 ·have hw:=Wk n h0 hn
  go_enter func58,ntmps58;go_wp2_with fail;refine(I9 _ _ _ _ _ (CQ HP.out ((Below.refl _ _).alloc (Ac4 _) _) hp0) (by unfold U64;omega) Dp Dp Dp (by rw[NI];unfold P255;omega)).mono ?_;rintro e w1 ⟨z0,z1,z2,z3,hz0,hz1,hz2,hz3,ez,rfl,hb1⟩;have g1:=Aj hb1 (heap_alloc_new w _) (by simp<;>omega);have hB1:Hid (Below w.heap.size w w1):=Below.trans ((Below.refl _ _).alloc (Ac4 _) _) (hb1.mono (by simp<;>omega));have EZ:=Hid.mk ez;clear hb1 ez;go_wp2_with fail;refine(D7 _ _ _ _ _ hz0 hz1 hz2 hz3).mono ?_;rintro e w2 ⟨rfl,hb2⟩;have g2:=Aj hb2 g1 (Aa g1);have hB2:Hid (Below w.heap.size w w2):=Below.trans hB1.out (hb2.mono hB1.out.size);clear hb2 g1
  go_wp2_with (refine BD rfl _ _ rfl _ _ rfl rfl _ g2 rfl ?_;intro w3 g3 o3)
  refine bodyPost_ret (v:=.agg (BA (n%P255))) ?_ rfl ⟨rfl,Below.trans hB2.out (Only.below (b:=w.heap.size) (B:=w.heap.size) o3 (by omega))⟩;have ez:=EZ.out;rw[NI] at ez;rw[YW ez] at g3;exact results_cell_row rfl _ _ _ _ _ _ _ rfl g3 underlying22 rfl (by rw[Ah];exact Bk)
 ·have hw:=Wl n (by omega) h1
  go_enter func58,ntmps58;go_wp2_with fail;refine(D7 _ _ _ _ _ (by unfold U64;omega) Dp Dp Dp).mono ?_;rintro e w2 ⟨rfl,hb2⟩;have g2:=Aj hb2 (heap_alloc_new w _) (by simp<;>omega);have hB2:Hid (Below w.heap.size w w2):=Below.trans ((Below.refl _ _).alloc (Ac4 _) _) (hb2.mono (by simp<;>omega));clear hb2
  go_wp2_with (refine BD rfl _ _ rfl _ _ rfl rfl _ g2 rfl ?_;intro w3 g3 o3)
  refine bodyPost_ret (v:=.agg (BA (n%P255))) ?_ rfl ⟨rfl,Below.trans hB2.out (Only.below (b:=w.heap.size) (B:=w.heap.size) o3 (by omega))⟩;rw[NI] at g3;exact results_cell_row rfl _ _ _ _ _ _ _ rfl g3 underlying22 rfl (by rw[Ah];exact Bk)
end Go.Proofs.YthghcjepdhkfdaaGreatDoor.Fld
namespace Go.Proofs.YthghcjepdhkfdaaGreatDoor.Fld
open Go
section
variable {P:Program} {ops:Array Oper} {Q:Exit→Act→World→Prop} {md:Region.Mode} {S:World→Prop} {T:Nat→Bool}
def Ij(P:Program)(md:Region.Mode)(ops:Array Oper)(Q:Exit→Act→World→Prop)(S:World→Prop)(T:Nat→Bool):Nat→Array Bool→Act→World→Prop
 | 0,listed,a,w=>Region.ready md ops listed=[]∧Q .normal a w
 | fuel+1,listed,a,w =>
  (Region.ready md ops listed=[]→Q .normal a w) ∧
  ∀i∈Region.ready md ops listed,wpOp P ops Q i (fun a' w'=>(T i=true→S w→S w')∧Ij P md ops Q S T fuel (listed.setIfInBounds i true) a' w') a w
theorem Lk:∀(fuel:Nat) (listed:Array Bool) (a:Act) (w:World),Ij P md ops Q S T fuel listed a w→wpAny P md ops Q fuel listed a w
 | 0,_,_,_,h=>h
 | fuel+1,_,_,_,h=>⟨h.1,fun i hi=>wpOp_mono (fun a' w' h'=>Lk fuel _ a' w' h'.2) (h.2 i hi)⟩
def KG(md:Region.Mode)(oj:Oper)(i:Nat):Bool:=oj.after.any fun e=>Region.binds md e && e.on==i
theorem Qv{oj:Oper}{i:Nat}(h:KG md oj i=true):∃e∈oj.after,Region.binds md e=true∧e.on=i:=by
 obtain⟨e,he,hb⟩:=Array.any_eq_true'.1 h;simp only[AcB,beq_iff_eq] at hb;exact⟨e,he,hb.1,hb.2⟩
theorem NJ{i:Nat}{oi:Oper}{v:Value}(hi:ops[i]?=some oi)(hsel:∀(j:Nat) (o:Oper) cs b,ops[j]?=some o→o.op≠.select cs b)(hQ:∀c a w,Q (.panic c) (a.put oi.dst v) w→Q (.panic c) a w):∀(fuel:Nat) (listed:Array Bool) (a:Act) (w:World), (∀j oj,ops[j]?=some oj→j≠i→listed.getD j true=false→(∀e∈oj.after,Region.binds md e=true→e.on≠i)→oi.apart ops oj=true) →(∀j oj,ops[j]?=some oj→j≠i→listed.getD j true=false→T j=false→∃e∈oj.after,Region.binds md e=true∧e.on=i) →i∈Region.ready md ops listed→YieldsIf P ops S oi v a→S w →Ij P md ops Q S T fuel (listed.setIfInBounds i true) (a.put oi.dst v) w→Ij P md ops Q S T (fuel+1) listed a w:=by
 intro fuel
 induction fuel with
 | zero =>
  intro listed a w _ _ hr hy hS H;refine⟨fun h=>(by rw[h] at hr;cases hr),fun j hj=>?_⟩
  by_cases hji:j=i
  ·subst hji;exact hy.wpOp hi hS ⟨fun _ h=>h,H⟩
  ·have:=ready_mono hj hji
   rw[H.1] at this;cases this
 | succ fuel ih =>
  intro listed a w hfree hT hr hy hS H;refine⟨fun h=>(by rw[h] at hr;cases hr),fun j hj=>?_⟩
  by_cases hji:j=i
  ·subst hji;exact hy.wpOp hi hS ⟨fun _ h=>h,H⟩
  ·have h1:=H.2 j (ready_mono hj hji)
   obtain⟨hjun,oj,hoj,hall⟩:=mem_ready.1 hj
   have hnot:∀e∈oj.after,Region.binds md e=true→e.on≠i:=fun e he hb heq=>by
    have h1:=hall e he hb;have h0:=(mem_ready.1 hr).1;rw[heq] at h1
    rcases AcS i listed.size with h' | h'
    ·simp[h'] at h0 h1;rw[h0] at h1;cases h1
    ·simp[AcI h'] at h1
   have hTj:T j=true:=by
    cases hq:T j with
    | true=>rfl
    | false=>obtain⟨e,he,hb,ho⟩:=hT j oj hoj hji hjun hq;exact absurd ho (hnot e he hb)
   have h2:=wpOp_putIf hoj (hfree j oj hoj hji hjun hnot) (fun cs b=>hsel i oi cs b hi) (fun cs b=>hsel j oj cs b hoj) hQ hy h1
   have hun:∀k,(listed.setIfInBounds j true).getD k true=false→listed.getD k true=false:=fun k hk=>by
    by_cases hjk:j=k
    ·subst hjk;exact hjun
    ·rw[getD_set_ne true hjk] at hk;exact hk
   refine wpOp_mono (fun a' w' h3=>⟨h3.2.1,ih (listed.setIfInBounds j true) a' w' (fun k ok hk hki hu hno=>hfree k ok hk hki (hun k hu) hno)
    (fun k ok hk hki hu ht=>hT k ok hk hki (hun k hu) ht) (ready_mono hr (Ne.symm hji)) h3.1 (h3.2.1 hTj hS) ?_⟩) h2
   rw[Array.setIfInBounds_comm _ _ hji];exact h3.2.2
theorem Mg{i:Nat}{oi:Oper}{v:Value}(hi:ops[i]?=some oi)(hsel:∀(j:Nat) (o:Oper) cs b,ops[j]?=some o→o.op≠.select cs b)(hQ:∀c a w,Q (.panic c) (a.put oi.dst v) w→Q (.panic c) a w):∀(fuel:Nat) (listed:Array Bool) (a:Act) (w:World), (∀j oj,ops[j]?=some oj→j≠i→listed.getD j true=false→(∀e∈oj.after,Region.binds md e=true→e.on≠i)→oi.apart ops oj=true) →i∈Region.ready md ops listed→YieldsIf P ops (fun _=>True) oi v a →Ij P md ops Q S T fuel (listed.setIfInBounds i true) (a.put oi.dst v) w→Ij P md ops Q S T (fuel+1) listed a w:=by
 intro fuel
 induction fuel with
 | zero =>
  intro listed a w _ hr hy H;refine⟨fun h=>(by rw[h] at hr;cases hr),fun j hj=>?_⟩
  by_cases hji:j=i
  ·subst hji;exact hy.wpOp hi trivial ⟨fun _ h=>h,H⟩
  ·have:=ready_mono hj hji
   rw[H.1] at this;cases this
 | succ fuel ih =>
  intro listed a w hfree hr hy H;refine⟨fun h=>(by rw[h] at hr;cases hr),fun j hj=>?_⟩
  by_cases hji:j=i
  ·subst hji;exact hy.wpOp hi trivial ⟨fun _ h=>h,H⟩
  ·have h1:=H.2 j (ready_mono hj hji)
   obtain⟨hjun,oj,hoj,hall⟩:=mem_ready.1 hj
   have hnot:∀e∈oj.after,Region.binds md e=true→e.on≠i:=fun e he hb heq=>by
    have h1:=hall e he hb;have h0:=(mem_ready.1 hr).1;rw[heq] at h1
    rcases AcS i listed.size with h' | h'
    ·simp[h'] at h0 h1;rw[h0] at h1;cases h1
    ·simp[AcI h'] at h1
   have h2:=wpOp_putIf hoj (hfree j oj hoj hji hjun hnot) (fun cs b=>hsel i oi cs b hi) (fun cs b=>hsel j oj cs b hoj) hQ hy h1
   have hun:∀k,(listed.setIfInBounds j true).getD k true=false→listed.getD k true=false:=fun k hk=>by
    by_cases hjk:j=k
    ·subst hjk;exact hjun
    ·rw[getD_set_ne true hjk] at hk;exact hk
   refine wpOp_mono (fun a' w' h3=>⟨h3.2.1,ih (listed.setIfInBounds j true) a' w' (fun k ok hk hki hu hno=>hfree k ok hk hki (hun k hu) hno)
    (ready_mono hr (Ne.symm hji)) h3.1 ?_⟩) h2
   rw[Array.setIfInBounds_comm _ _ hji];exact h3.2.2
def TH(md:Region.Mode)(ops:Array Oper)(F:Nat→Nat)(T:Nat→Bool):List Nat→Array Bool→Bool
 | [],listed=>(Region.ready md ops listed).isEmpty
 | i::l,listed =>
  (match F i with
   | 0=>Region.ready md ops listed==[i]
   | 1=>(Region.ready md ops listed).contains i && Region.free md ops listed i &&
    (AcA ops.size).all (fun j=>j==i || listed.getD j true || T j || match ops[j]? with | some oj=>KG md oj i | none=>true)
   | _=>(Region.ready md ops listed).contains i && Region.free md ops listed i) && TH md ops F T l (listed.setIfInBounds i true)
def DN(P:Program)(ops:Array Oper)(Q:Exit→Act→World→Prop)(S:World→Prop)(F:Nat→Nat)(T:Nat→Bool):List Nat→Act→World→Prop
 | [],a,w=>Q .normal a w
 | i::l,a,w=>match F i with
  | 0=>wpOp P ops Q i (fun a' w'=>(T i=true→S w→S w')∧DN P ops Q S F T l a' w') a w
  | 1=>∃o v,ops[i]?=some o∧YieldsIf P ops S o v a∧S w∧DN P ops Q S F T l (a.put o.dst v) w
  | _=>∃o v,ops[i]?=some o∧YieldsIf P ops (fun _=>True) o v a∧DN P ops Q S F T l (a.put o.dst v) w
theorem FW{F:Nat→Nat}(hs:Region.noSelect ops=true)(hQ:∀c a d v w,Q (.panic c) (a.put d v) w→Q (.panic c) a w):∀(l:List Nat) (listed:Array Bool) (a:Act) (w:World),TH md ops F T l listed=true→DN P ops Q S F T l a w→Ij P md ops Q S T l.length listed a w
 | [],listed,a,w,hB,h=>⟨by simpa [TH] using hB,h⟩
 | i::l,listed,a,w,hB,h=>by
  simp only[TH,AcB] at hB;obtain⟨hB1,hB2⟩:=hB;simp only[DN] at h
  match hF:F i with
  | 0 =>
   simp only[hF,beq_iff_eq] at hB1 h;refine⟨fun h0=>(by rw[hB1] at h0;cases h0),fun j hj=>?_⟩;rw[hB1] at hj;obtain rfl:j=i:=by simpa using hj
   exact wpOp_mono (fun a' w' h'=>⟨h'.1,FW hs hQ l _ _ _ hB2 h'.2⟩) h
  | 1 =>
   simp only[hF,AcB] at hB1 h;obtain⟨⟨hr,hf⟩,hw⟩:=hB1;obtain⟨o,v,ho,hy,hS,hrest⟩:=h;refine NJ ho (Region.noSelect_spec hs) (fun c a w=>hQ c a _ _ w) _ listed a w (Region.free_spec ho hf) (fun j oj hj hji hun ht=>?_) (by simpa using hr) hy hS (FW hs hQ l _ _ _ hB2 hrest);have hjlt:j<ops.size:=(Array.getElem?_eq_some_iff.1 hj).1;have h1:=List.all_eq_true.1 hw j (List.mem_range.2 hjlt);simp only[hun,ht,hj,Bool.or_false,Bool.or_eq_true,beq_iff_eq] at h1
   rcases h1 with h1 | h1
   ·exact absurd h1 hji
   ·exact Qv h1
  | n+2 =>
   simp only[hF,AcB] at hB1 h;obtain⟨hr,hf⟩:=hB1;obtain⟨o,v,ho,hy,hrest⟩:=h;exact Mg ho (Region.noSelect_spec hs) (fun c a w=>hQ c a _ _ w) _ listed a w (Region.free_spec ho hf) (by simpa using hr) hy (FW hs hQ l _ _ _ hB2 hrest)
theorem Mh{id:Nat}{a:Act}{w:World}(S:World→Prop)(F:Nat→Nat)(T:Nat→Bool)(l:List Nat)(hm:P.follows .mixedOrders=true)(hB:(Region.noSelect ops && l.length==ops.size && TH .any ops F T l (Array.replicate ops.size false))=true)(hQ:∀c a d v w,Q (.panic c) (a.put d v) w→Q (.panic c) a w)(h:DN P ops Q S F T l a w.drew):(Code.region id ops true).wp P Q a w:=by
 simp only[AcB,beq_iff_eq] at hB;obtain⟨⟨hs,hl⟩,hB⟩:=hB;refine wp_region_any hm (Lk (S:=S) (T:=T) _ _ _ _ ?_);have:=FW (S:=S) hs hQ l _ a _ hB h;rw[hl] at this;exact this
theorem Ax{id:Nat}{a:Act}{w:World}(S:World→Prop)(F:Nat→Nat)(T:Nat→Bool)(l:List Nat)(hm:P.follows .mixedOrders=true)(hB:(Region.noSelect ops && l.length==ops.size && TH .any ops F T l (Array.replicate ops.size false))=true)(hQ:∀c a d v w,Q (.panic c) (a.put d v) w→Q (.panic c) a w)(hS:S w.drew)(h:S w.drew→DN P ops Q S F T l a w.drew):(Code.region id ops true).wp P Q a w:=Mh S F T l hm hB hQ (h hS)
theorem NK{i:Nat}{o:Oper}{rest:List Oper}(ho:ops.toList.drop i=o::rest):ops[i]?=some o:=by
 rw[←Array.getElem?_toList];have h:=congrArg (fun l=>l[0]?) ho
 simpa [List.getElem?_drop] using h
theorem AK{F:Nat→Nat}{i:Nat}{l:List Nat}{o:Oper}{v:Value}{a:Act}{w:World}(hF:F i=1){rest:List Oper}(ho:ops.toList.drop i=o::rest)(hw:Region.wanted o (yielded ops a.tmps)=true)(hS:S w)(hy:∀w,S w→(execOp a.eval o).run P w=.ok (.value v) w)(h:DN P ops Q S F T l (a.put o.dst v) w):DN P ops Q S F T (i::l) a w:=by
 simp only[DN,hF];exact⟨o,v,NK ho,.inl ⟨hw,hy⟩,hS,h⟩
theorem Av{F:Nat→Nat}{i:Nat}{l:List Nat}{o:Oper}{v:Value}{a:Act}{w:World}(hF:F i=2){rest:List Oper}(ho:ops.toList.drop i=o::rest)(hw:Region.wanted o (yielded ops a.tmps)=true)(hy:∀w,(execOp a.eval o).run P w=.ok (.value v) w)(h:DN P ops Q S F T l (a.put o.dst v) w):DN P ops Q S F T (i::l) a w:=by
 simp only[DN,hF];exact⟨o,v,NK ho,.inl ⟨hw,fun w _=>hy w⟩,h⟩
theorem Ay{F:Nat→Nat}{i:Nat}{l:List Nat}{o:Oper}{a:Act}{w:World}(hF:F i=0){rest:List Oper}(ho:ops.toList.drop i=o::rest)(hw:Region.wanted o (yielded ops a.tmps)=true)(h:∀K:Act→World→Prop,(∀a w',(T i=true→S w→S w')→DN P ops Q S F T l a w'→K a w')→o.wp P a w K Q):DN P ops Q S F T (i::l) a w:=by
 simp only[DN,hF,wpOp,NK ho,hw,if_true];exact .inl (h _ (fun a w h1 h2=>⟨h1,h2⟩))
theorem Be{F:Nat→Nat}{a:Act}{w:World}(h:Q .normal a w):DN P ops Q S F T [] a w:=h
end
end Go.Proofs.YthghcjepdhkfdaaGreatDoor.Fld
namespace Go.Proofs.YthghcjepdhkfdaaGreatDoor.Fld
open Go.RowKit Go.Proofs
open Tryz
theorem Bi{a:Act}{o:Oper}{x:Operand}{w:World}(ho:o.op=.load 22 x)(g:Nat)(cs:Array Value)(hx:a.eval x=.pointer (some ⟨g,0,none⟩))(hs:cs.size=32)(hg:w.heap[g]?=some (.cells cs 22 (0,0))):(execOp a.eval o).run prog w=.ok (.value (.agg cs)) w:=by
 unfold execOp;simp only[ho,hx,Instr.loadAt,Instr.sureAddr,Sem.run_bind,Sem.run_pure,Result.andThen_ok,run_loadVar_row w g 22 22 cs (0,0) _ hg underlying22 rfl (by rw[hs];exact Bk)]
theorem Ll{a:Act}{o:Oper}{x:Operand}{w:World}(ho:o.op=.load 142 x)(g:Nat)(v0 v1 v2 v3:Value)(hx:a.eval x=.pointer (some ⟨g,0,none⟩))(hg:w.heap[g]?=some (.cells #[v0,v1,v2,v3] 142 (0,0))):(execOp a.eval o).run prog w=.ok (.value (.agg #[v0,v1,v2,v3])) w:=by
 unfold execOp;simp only[ho,hx,Instr.loadAt,Instr.sureAddr,Sem.run_bind,Sem.run_pure,Result.andThen_ok,run_loadVar_row w g 142 142 _ (0,0) _ hg underlying142 rfl (by kernel_rfl)]
theorem EJ{a:Act}{o:Oper}{w:World}{K:Act→World→Prop}{Q:Exit→Act→World→Prop}(x y:Operand)(ho:o.op=.store 22 x y)(g:Nat)(n:Int)(hx:a.eval x=.pointer (some ⟨g,0,none⟩))(hy:a.eval y=.agg (BA n))(old:Array Value)(hg:w.heap[g]?=some (.cells old 22 (0,0)))(hold:old.size=32)(h:∀w2,w2.heap[g]?=some (.cells (BA n) 22 (0,0))→Only g w w2→K (a.put o.dst undef) w2):o.wp prog a w K Q:=
 wp_store_row 22 x y ho g _ hx hy 22 old hg (by rw[Ah];exact Bk) (by rw[Ah];exact hold) (N0 n) (h _ (setRow_heap w g old _ 22 (0,0) hg) (Cd w g _))
theorem MK{a:Act}{o:Oper}{w:World}{K:Act→World→Prop}{Q:Exit→Act→World→Prop}(x y:Operand)(ho:o.op=.store 142 x y)(g:Nat)(y0 y1 y2 y3:Int)(hx:a.eval x=.pointer (some ⟨g,0,none⟩))(hy:a.eval y=.agg #[.int .u64 y0,.int .u64 y1,.int .u64 y2,.int .u64 y3])(v0 v1 v2 v3:Value)(hg:w.heap[g]?=some (.cells #[v0,v1,v2,v3] 142 (0,0)))(h:∀w2,w2.heap[g]?=some (.cells #[.int .u64 y0,.int .u64 y1,.int .u64 y2,.int .u64 y3] 142 (0,0))→Only g w w2→K (a.put o.dst undef) w2):o.wp prog a w K Q:=
 wp_store_row 142 x y ho g _ hx hy 142 _ hg (by kernel_rfl) rfl (by simp[Value.oneCell']) (h _ (setRow_heap w g _ _ 142 (0,0) hg) (Cd w g _))
theorem AG(w:World)(A B C:Obj):(((w.alloc A).alloc B).alloc C).heap[w.heap.size+1]?=some B:=by
 rw[Below.heap_alloc _ _ _ (by simp<;>omega)];exact heap_alloc2_new w A B
theorem AA(w:World)(A B C:Obj):(((w.alloc A).alloc B).alloc C).heap[w.heap.size]?=some A:=by
 rw[Below.heap_alloc _ _ _ (by simp<;>omega)];exact heap_alloc2_old w A B
theorem El(n:Int):0≤n%P255∧n%P255<P255:=⟨Int.emod_nonneg _ (by unfold P255;decide),Int.emod_lt_of_pos _ (by unfold P255;decide)⟩
theorem YX{z a b y o k:Int}(e1:y=b%P255)(e2:o=P255-y)(e3:z=a+o+k*P255):z%P255=(a-b)%P255:=by
 have hb:b=P255*(b/P255)+b%P255:=(Int.mul_ediv_add_emod b P255).symm;have:z=(a-b)+P255*(1+k+b/P255):=by rw[e3,e2,e1];rw[AcK,AcK,Int.mul_one,AcL P255 k];omega
 rw[this,Adn]
def Acv(i:Nat):Nat:=[1,0,1].getD i 0
def Acw(i:Nat):Bool:=i != 8
theorem Kx(a b:Int)(w:World)(hP:PrimeAt w)(ha0:0≤a)(ha1:a<Bj)(hb0:0≤b)(hb1:b<Bj):Calls prog 167 #[.agg (BA a),.agg (BA b)] w fun e w'=>e=.returned (.agg (BA ((a-b)%P255)))∧Below w.heap.size w w':=by
 have hp0:=Cp hP;have HP:=Hid.mk hP;clear hP;go_enter func167,ntmps167;go_wp2
 refine AH (fun v=>v.heap[w.heap.size]?=some (.cells (BA a) 22 (0,0))∧v.heap[w.heap.size+1]?=some (.cells (BA b) 22 (0,0)) ∧
  (∃z:Array Value,v.heap[w.heap.size+1+1]?=some (.cells z 22 (0,0))∧z.size=32)∧Below w.heap.size w v)
  ⟨AA w _ _ _,AG w _ _ _,⟨_,AP w _ _ _,rfl⟩,by repeat first | exact Below.refl _ _ | refine Below.alloc ?_ (by simp<;>omega) _⟩ ?_
 rintro v0 ⟨ga,gb,⟨z,gz,sz⟩,hB⟩;refine Ax (fun v=>v.heap[w.heap.size]?=some (.cells (BA a) 22 (0,0))∧v.heap[w.heap.size+1]?=some (.cells (BA b) 22 (0,0)))
  Acv Acw [0,2,1,3,4,5,6,7,8] rfl (by kernel_rfl) (fun _ _ d _ _ h=>by cases d<;>exact h) ⟨ga,gb⟩ (fun HS=>?_)
 apply AK rfl rfl rfl HS
 focus exact fun v h=>Bi rfl _ _ rfl (Ah _) h.1
 simp only[Act.put,Ac6,Ac7,Ac5];apply AK rfl rfl rfl HS
 focus exact fun v h=>Bi rfl _ _ rfl (Ah _) h.2
 simp only[Act.put,Ac6,Ac7,Ac5];clear HS ga gb;refine Ay rfl rfl rfl ?_;intro K hK
 go_simp
 refine(Ei a _).mono ?_;rintro e v1 ⟨rfl,hb⟩;have gz:=Aj hb gz (Aa gz);have hB:=Below.trans (Below.drew hB) (hb.mono hB.size);refine hK _ _ (fun _ h=>⟨Aj hb h.1 (Aa h.1),Aj hb h.2 (Aa h.2)⟩) ?_;clear hK K hb;refine Ay rfl rfl rfl ?_;intro K hK
 go_simp
 refine(Ei b _).mono ?_;rintro e v2 ⟨rfl,hb⟩;have gz:=Aj hb gz (Aa gz);have hB:=Below.trans hB (hb.mono hB.size);refine hK _ _ (fun _ h=>⟨Aj hb h.1 (Aa h.1),Aj hb h.2 (Aa h.2)⟩) ?_;clear hK K hb;refine Ay rfl rfl rfl ?_;intro K hK
 go_simp
 refine(M2 _ _ _ _ _ (AO _ _) (AO _ _) (AO _ _) (AO _ _)).mono ?_;rintro e v3 ⟨y0,y1,y2,y3,hy0,hy1,hy2,hy3,ey,rfl,hb⟩;have gz:=Aj hb gz (Aa gz);have hB:=Below.trans hB (hb.mono hB.size);refine hK _ _ (fun _ h=>⟨Aj hb h.1 (Aa h.1),Aj hb h.2 (Aa h.2)⟩) ?_;clear hK K hb;rw[Eb hb0 hb1] at ey;have hy:=(El b).2;have EY:=Hid.mk ey;have hle:V4 y0 y1 y2 y3≤P255:=by rw[ey];omega
 clear ey hy;have HL:=Hid.mk hle;clear hle;refine Ay rfl rfl rfl ?_;intro K hK
 go_simp
 refine(I9 _ _ _ _ _ (CQ HP.out hB hp0) hy0 hy1 hy2 hy3 HL.out).mono ?_;rintro e v4 ⟨o0,o1,o2,o3,ho0,ho1,ho2,ho3,eo,rfl,hb⟩;have gz:=Aj hb gz (Aa gz);have hB:=Below.trans hB (hb.mono hB.size);refine hK _ _ (fun _ h=>⟨Aj hb h.1 (Aa h.1),Aj hb h.2 (Aa h.2)⟩) ?_;clear hK K hb;have EO:=Hid.mk eo;clear eo;refine Ay rfl rfl rfl ?_;intro K hK
 go_simp
 refine(Ou _ _ _ _ _ _ _ _ _ (AO _ _) (AO _ _) (AO _ _) (AO _ _) ho0 ho1 ho2 ho3).mono ?_;rintro e v5 ⟨q0,q1,q2,q3,hq0,hq1,hq2,hq3,⟨k,ek⟩,rfl,hb⟩;have gz:=Aj hb gz (Aa gz);have hB:=Below.trans hB (hb.mono hB.size);refine hK _ _ (fun _ h=>⟨Aj hb h.1 (Aa h.1),Aj hb h.2 (Aa h.2)⟩) ?_;clear hK K hb;rw[Eb ha0 ha1] at ek;have EK:=Hid.mk (YX EY.out EO.out ek);clear ek;refine Ay rfl rfl rfl ?_;intro K hK
 go_simp
 refine(D7 _ _ _ _ _ hq0 hq1 hq2 hq3).mono ?_;rintro e v6 ⟨rfl,hb⟩;have gz:=Aj hb gz (Aa gz);have hB:=Below.trans hB (hb.mono hB.size);refine hK _ _ (fun _ h=>⟨Aj hb h.1 (Aa h.1),Aj hb h.2 (Aa h.2)⟩) ?_;clear hK K hb;refine Ay rfl rfl rfl ?_;intro K hK;refine EJ _ _ rfl _ _ rfl rfl _ gz sz ?_;intro v7 g7 o7;refine hK _ _ (fun h=>by cases h) ?_;clear hK K;refine Be ?_;go_wp2;rw[EK.out] at g7;exact bodyPost_ret (v:=.agg (BA ((a-b)%P255))) (results_cell_row rfl _ _ _ _ _ _ _ rfl g7 underlying22 rfl (by rw[Ah];exact Bk)) rfl
  ⟨rfl,Below.trans hB (Only.below (b:=w.heap.size+1+1) (B:=w.heap.size) o7 (by omega))⟩
def RowsAt(w:World)(b off:Nat)(ns:List Int):Prop:=∀k,k<ns.length→w.rangeAt b (off+k*32) (BA (ns.getD k 0)).toList
theorem C5{ops:Array Oper}{rest:List Oper}{o:Oper}{a:Act}{w:World}{Q:Exit→Act→World→Prop}(hgd:o.guard=none)(x:Operand)(ho:o.op=.load 22 x)(b off:Nat)(n:Int)(hx:a.eval x=.pointer (some ⟨b,off,none⟩))(hc:w.rangeAt b off (BA n).toList)(h:wpList prog ops Q rest (a.put o.dst (.agg (BA n))) w):wpList prog ops Q (o::rest) a w:=
 wpList_load_mid hgd 22 x ho b off hx _ _ hc underlying22 rfl (by rw[Add0,Ah];exact Bk) (by rw[Array.toArray_toList];exact h)
theorem Fa{ops:Array Oper}{rest:List Oper}{o:Oper}{a:Act}{w:World}{Q:Exit→Act→World→Prop}(hgd:o.guard=none)(x:Operand)(ho:o.op=.load 142 x)(g:Nat)(v0 v1 v2 v3:Value)(hx:a.eval x=.pointer (some ⟨g,0,none⟩))(hg:w.heap[g]?=some (.cells #[v0,v1,v2,v3] 142 (0,0)))(h:wpList prog ops Q rest (a.put o.dst (.agg #[v0,v1,v2,v3])) w):wpList prog ops Q (o::rest) a w:=
 wpList_load_row hgd 142 x ho g hx 142 _ (0,0) _ hg underlying142 rfl (by kernel_rfl) h
theorem Wm(ns:List Int)(k:Nat)(h:k<ns.length):(ns.take (k+1)).sum=(ns.take k).sum+ns[k]:=by
 rw[List.take_succ_eq_append_getElem h,List.sum_append];simp
theorem Wn{ns:List Int}{k:Nat}{Z Q c n:Int}(hz:∃c:Int,Z=(ns.take k).sum+c*P255)(e:Q=Z+n+c*P255)(hs:(ns.take (k+1)).sum=(ns.take k).sum+n):∃c:Int,Q=(ns.take (k+1)).sum+c*P255:=by
 obtain⟨d,rfl⟩:=hz;exact⟨d+c,by rw[e,hs,Int.add_mul];omega⟩
theorem Wo{ns:List Int}{Z:Int}(hz:∃c:Int,Z=(ns.take ns.length).sum+c*P255):Z%P255=ns.sum%P255:=by
 obtain⟨d,rfl⟩:=hz;rw[List.take_length,AcL,Adn]
def AbA(i:Nat):Nat:=[1,1].getD i 0
def AbB(i:Nat):Bool:=i != 4
theorem Wp(b off cap:Nat)(ns:List Int)(w:World)(hr:∀n∈ns,0≤n∧n<Bj)(hrows:RowsAt w b off ns)(hb:b<w.heap.size)(hlen:ns.length≤4611686018427387904):Calls prog 166 #[.slice (some ⟨b,off,none⟩) ns.length cap] w fun e w'=>e=.returned (.agg (BA (ns.sum%P255)))∧Below w.heap.size w w':=by
 have HR:=Hid.mk hr;have HW:=Hid.mk hrows;clear hr hrows;go_enter func166,ntmps166;go_wp2
 go_loopw [8] (fun i v=>∃k:Nat,k≤ns.length∧i=.int .i64 k∧∃z0 z1 z2 z3,U64 z0∧U64 z1∧U64 z2∧U64 z3∧(∃c:Int,V4 z0 z1 z2 z3=(ns.take k).sum+c*P255) ∧
   v.heap[w.heap.size+1]?=some (.cells #[.int .u64 z0,.int .u64 z1,.int .u64 z2,.int .u64 z3] 142 (0,0))∧(∃z:Array Value,v.heap[w.heap.size]?=some (.cells z 22 (0,0))∧z.size=32)∧Below w.heap.size w v)
  (fun i _=>ns.length-(intOf i).toNat)
 case atStart =>
  exact⟨0,Nat.zero_le _,rfl,0,0,0,0,Dp,Dp,Dp,Dp,⟨0,by simp[V4]⟩,heap_alloc2_new w _ _,⟨_,heap_alloc2_old w _ _,rfl⟩,by repeat first | exact Below.refl _ _ | refine Below.alloc ?_ (by simp<;>omega) _⟩
 case round =>
  obtain⟨k,hk,rfl,z0,z1,z2,z3,hz0,hz1,hz2,hz3,hz,gs,⟨z,gz,sz⟩,hB⟩:=hrel;have HZ:=Hid.mk hz;clear hz
  by_cases hlt:k<ns.length
  ·have hn:=HR.out _ (List.getElem_mem hlt)
   have hrow:wr.rangeAt b (off+k*32) (BA (ns.getD k 0)).toList:=fun j v hv=>(hB.cell hb).trans (HW.out k hlt j v hv)
   have hgd:ns.getD k 0=ns[k]:=by simp[hlt]
   rw[hgd] at hrow;have hsn:=Hid.mk (Wm ns k hlt);clear hgd;generalize ns[k]=n at *;have HROW:=Hid.mk hrow;clear hrow
   go_wp2_with (first|(refine C5 rfl _ rfl _ _ n rfl HROW.out ?_)|(refine BD rfl _ _ rfl _ n rfl rfl _ (heap_alloc_new wr _) rfl ?_;intro v1 g1 o1))
   have hsz:w.heap.size+1<wr.heap.size:=Aa gs;have gs1:=(o1.block _ (by omega)).trans ((Below.heap_alloc wr _ _ hsz).trans gs);have gz1:=(o1.block _ (by omega)).trans ((Below.heap_alloc wr _ _ (by omega)).trans gz);have hB1:Below w.heap.size w v1:=Below.trans (hB.alloc (by omega) _) (Only.below (b:=wr.heap.size) (B:=w.heap.size) o1 (by omega));clear o1 gs gz hB;generalize wr.heap.size=bw at *;refine Ax (fun v=>v.heap[w.heap.size+1]?=some (.cells #[.int .u64 z0,.int .u64 z1,.int .u64 z2,.int .u64 z3] 142 (0,0))∧v.heap[bw]?=some (.cells (BA n) 22 (0,0)))
    AbA AbB [0,1,2,3,4] rfl (by kernel_rfl) (fun _ _ d _ _ h=>by cases d<;>exact h) ⟨gs1,g1⟩ (fun HS=>?_)
   apply AK rfl rfl rfl HS
   focus exact fun v h=>Ll rfl _ _ _ _ _ rfl h.1
   simp only[Act.put,Ac6,Ac7,Ac5];apply AK rfl rfl rfl HS
   focus exact fun v h=>Bi rfl _ _ rfl (Ah _) h.2
   simp only[Act.put,Ac6,Ac7,Ac5];clear HS g1;refine Ay rfl rfl rfl ?_;intro K hK
   go_simp
   refine(Ei n _).mono ?_;rintro e v2 ⟨rfl,hb2⟩;have gs2:=Aj hb2 gs1 (Aa gs1);have gz2:=Aj hb2 gz1 (Aa gz1);have hB2:=Below.trans (Below.drew hB1) (hb2.mono hB1.size);refine hK _ _ (fun _ h=>⟨Aj hb2 h.1 (Aa h.1),Aj hb2 h.2 (Aa h.2)⟩) ?_;clear hK K hb2 gs1 gz1 hB1;refine Ay rfl rfl rfl ?_;intro K hK
   go_simp
   refine(Ou _ _ _ _ _ _ _ _ _ hz0 hz1 hz2 hz3 (AO _ _) (AO _ _) (AO _ _) (AO _ _)).mono ?_;rintro e v3 ⟨q0,q1,q2,q3,hq0,hq1,hq2,hq3,⟨c,ec⟩,rfl,hb3⟩;rw[Eb hn.1 hn.2] at ec;have EC:=Hid.mk ec;clear ec;have gs3:=Aj hb3 gs2 (Aa gs2);have gz3:=Aj hb3 gz2 (Aa gz2);have hB3:=Below.trans hB2 (hb3.mono hB2.size);refine hK _ _ (fun _ h=>⟨Aj hb3 h.1 (Aa h.1),Aj hb3 h.2 (Aa h.2)⟩) ?_;clear hK K hb3 gs2 gz2 hB2;refine Ay rfl rfl rfl ?_;intro K hK;refine MK _ _ rfl _ _ _ _ _ rfl rfl _ _ _ _ gs3 ?_;intro v4 g4 o4;refine hK _ _ (fun h=>by cases h) ?_;clear hK K;refine Be ?_;have gz4:=(o4.block _ (by omega)).trans gz3;have hB4:Below w.heap.size w v4:=Below.trans hB3 (Only.below (b:=w.heap.size+1) (B:=w.heap.size) o4 (by omega));clear o4 gs3 gz3 hB3;go_wp2
   go_roundw
   case rel=>exact⟨k+1,by omega,by go_num,q0,q1,q2,q3,hq0,hq1,hq2,hq3,Wn HZ.out EC.out hsn.out,g4,⟨z,gz4,sz⟩,hB4⟩
   case measure=>simp[intOf];omega
  ·have hk2:k=ns.length:=by omega
   subst hk2
   go_wp2_with (refine Fa rfl _ rfl _ _ _ _ _ rfl gs ?_)
   refine(D7 _ _ _ _ _ hz0 hz1 hz2 hz3).mono ?_;rintro e v2 ⟨rfl,hb2⟩;have gz2:=Aj hb2 gz (Aa gz);have hB2:=Below.trans hB (hb2.mono hB.size);clear hb2
   go_wp2_with (refine BD rfl _ _ rfl _ _ rfl rfl _ gz2 sz ?_;intro v3 g3 o3)
   rw[Wo HZ.out] at g3;exact bodyPost_ret (v:=.agg (BA (ns.sum%P255))) (results_cell_row rfl _ _ _ _ _ _ _ rfl g3 underlying22 rfl (by rw[Ah];exact Bk)) rfl
    ⟨rfl,Below.trans hB2 (Only.below (b:=w.heap.size) (B:=w.heap.size) o3 (by omega))⟩
def Prod4(a b x y lo hi:Int):Prop:=U64 lo∧U64 hi∧lo+18446744073709551616*hi=a+b+x*y
theorem Prod4.lo{a b x y lo hi:Int}(h:Prod4 a b x y lo hi):U64 lo:=h.1
theorem Prod4.hi{a b x y lo hi:Int}(h:Prod4 a b x y lo hi):U64 hi:=h.2.1
theorem TI{x y:Int}(hx:U64 x)(hy:U64 y):0≤x*y∧x*y≤340282366920938463426481119284349108225:=by
 unfold U64 at hx hy;refine⟨Int.mul_nonneg hx.1 hy.1,?_⟩;have:=Int.mul_le_mul (show x≤18446744073709551615 by omega) (show y≤18446744073709551615 by omega) hy.1 (by omega);omega
theorem A4{a b x y:Int}(ha:U64 a)(hb:U64 b)(hx:U64 x)(hy:U64 y):∃lo hi,Prod4 a b x y lo hi∧∀w, Calls prog 168 #[.int .u64 a,.int .u64 b,.int .u64 x,.int .u64 y] w fun e w'=>e=.returned (.tuple #[.int .u64 lo,.int .u64 hi])∧w'=w:=by
 have hm:=TI hx hy;have hH:U64 (x*y/18446744073709551616):=by unfold U64;omega
 have hL:U64 (x*y%18446744073709551616):=by unfold U64;omega
 obtain⟨l1,c1,s1,r1⟩:=Dm hL ha bit0;obtain⟨l2,c2,s2,r2⟩:=Dm s1.lo hb bit0;have M:=Hid.mk (fun w=>SW x y w hx hy)
 have hi:Prod4 a b x y l2 (x*y/18446744073709551616+c1+c2):=by
  unfold Sum3 U64 Bit at *;unfold Prod4 U64;generalize x*y=z at *;omega
 have w1:IntKind.u64.wrap (x*y/18446744073709551616+c1)=x*y/18446744073709551616+c1:=by
  rw[IntKind.wrap_u64];unfold Prod4 Sum3 U64 Bit at *;generalize x*y=z at *;omega
 have w2:IntKind.u64.wrap (x*y/18446744073709551616+c1+c2)=x*y/18446744073709551616+c1+c2:=by
  rw[IntKind.wrap_u64];unfold Prod4 Sum3 U64 Bit at *;generalize x*y=z at *;omega
 refine⟨l2,_,hi,fun w=>?_⟩;clear hi hm hH hL s1 s2;generalize x*y/18446744073709551616=h at *;generalize x*y%18446744073709551616=l at *;go_enter func168,ntmps168
 go_wp2_with (go_at_call 195;refine(M.out _).mono ?_;rintro e w' ⟨rfl,rfl⟩)
 go_ret2
 exact⟨rfl,rfl⟩
theorem Wq:IntKind.i64.wrap 1=1:=by decide +kernel
theorem Wr:IntKind.i64.wrap 2=2:=by decide +kernel
theorem Ws:IntKind.i64.wrap 3=3:=by decide +kernel
theorem Wu:IntKind.i64.wrap 4=4:=by decide +kernel
theorem Wv:IntKind.i64.wrap 5=5:=by decide +kernel
theorem Ww:IntKind.i64.wrap 6=6:=by decide +kernel
theorem Wx:IntKind.i64.wrap 7=7:=by decide +kernel
attribute [local go_sem] Vu Wq Wr Ws Wu Wv Ww Wx
theorem Aa7(x a b c d:Int):x*V4 a b c d=V4 (x*a) (x*b) (x*c) (x*d):=by unfold V4;grind
theorem Aa8(x a b c d:Int):V4 a b c d*x=V4 (a*x) (b*x) (c*x) (d*x):=by unfold V4;grind
theorem Ky{x y0 y1 y2 y3 w0 w1 w2 w3 p0 p1 p2 p3 c0 c1 c2 c3:Int}(s0:Prod4 w0 0 x y0 p0 c0)(s1:Prod4 w1 c0 x y1 p1 c1)(s2:Prod4 w2 c1 x y2 p2 c2)(s3:Prod4 w3 c2 x y3 p3 c3):V4 p0 p1 p2 p3+Bj*c3=V4 w0 w1 w2 w3+x*V4 y0 y1 y2 y3:=by
 rw[Aa7];unfold Prod4 at s0 s1 s2 s3;unfold V4 Bj;omega
theorem TJ{X0 X1 X2 X3 Y p00 p01 p02 p03 c03 p10 p11 p12 p13 c13 p20 p21 p22 p23 c23 p30 p31 p32 p33 c33:Int}(r0:V4 p00 p01 p02 p03+Bj*c03=V4 0 0 0 0+X0*Y)(r1:V4 p10 p11 p12 p13+Bj*c13=V4 p01 p02 p03 c03+X1*Y)(r2:V4 p20 p21 p22 p23+Bj*c23=V4 p11 p12 p13 c13+X2*Y)(r3:V4 p30 p31 p32 p33+Bj*c33=V4 p21 p22 p23 c23+X3*Y):V4 p00 p10 p20 p30+Bj*V4 p31 p32 p33 c33=V4 X0 X1 X2 X3*Y:=by
 rw[Aa8];generalize X0*Y=a0 at *;generalize X1*Y=a1 at *;generalize X2*Y=a2 at *;generalize X3*Y=a3 at *;unfold V4 Bj at *;omega
theorem YY{a0 a1 a2 a3 b0 b1 b2 b3 l0 l1 l2 l3 d0 d1 d2 d3:Int}(s0:Prod4 a0 0 b0 38 l0 d0)(s1:Prod4 a1 d0 b1 38 l1 d1)(s2:Prod4 a2 d1 b2 38 l2 d2)(s3:Prod4 a3 d2 b3 38 l3 d3):V4 l0 l1 l2 l3+Bj*d3=V4 a0 a1 a2 a3+38*V4 b0 b1 b2 b3:=by
 unfold Prod4 at s0 s1 s2 s3;unfold V4 Bj;omega
theorem Wy{L A B d:Int}(hL:0≤L∧L<Bj)(hA:0≤A∧A<Bj)(hB:0≤B∧B<Bj)(e:L+Bj*d=A+38*B):0≤d∧d≤38:=by
 unfold Bj at *;omega
theorem TK{Z L A B d XY k:Int}(e1:A+Bj*B=XY)(e2:L+Bj*d=A+38*B)(e3:Z=L+Bj*d+k*P255):Z=XY+(k-2*B)*P255:=by
 unfold Bj P255 at *;omega
theorem NL:U64 38:=by unfold U64;omega
def tF9(i:Nat):Nat:=[2,2,2,2,2,2,2,1,2,2,2,1,2,2,1,0,2,2,2,2,0,2].getD i 2
def tT9(i:Nat):Bool:=i != 20
def YZ(i:Nat):Nat:=[2,2,2,1,2,2,2,2,1,0,2,2,2,2,0,2].getD i 2
def Zc(i:Nat):Bool:=i != 14
theorem Wz(w:World)(A B C D E:Obj):(((((w.alloc A).alloc B).alloc C).alloc D).alloc E).heap[w.heap.size+1+1]?=some C:=by
 rw[Below.heap_alloc _ _ _ (by simp<;>omega),Below.heap_alloc _ _ _ (by simp<;>omega)];exact AP w A B C
theorem J4(x0 x1 x2 x3 y0 y1 y2 y3:Int)(w:World)(h0:U64 x0)(h1:U64 x1)(h2:U64 x2)(h3:U64 x3)(k0:U64 y0)(k1:U64 y1)(k2:U64 y2)(k3:U64 y3):Calls prog 136 #[.agg #[.int .u64 x0,.int .u64 x1,.int .u64 x2,.int .u64 x3],.agg #[.int .u64 y0,.int .u64 y1,.int .u64 y2,.int .u64 y3]] w fun e w' => ∃z0 z1 z2 z3,U64 z0∧U64 z1∧U64 z2∧U64 z3∧(∃k:Int,V4 z0 z1 z2 z3=V4 x0 x1 x2 x3*V4 y0 y1 y2 y3+k*P255) ∧ e=.returned (.agg #[.int .u64 z0,.int .u64 z1,.int .u64 z2,.int .u64 z3])∧Below w.heap.size w w':=by
 obtain⟨p00,c00,s00,r00⟩:=A4 Dp Dp h0 k0;have R00:=Hid.mk r00;clear r00;obtain⟨p01,c01,s01,r01⟩:=A4 Dp s00.hi h0 k1;have R01:=Hid.mk r01;clear r01;obtain⟨p02,c02,s02,r02⟩:=A4 Dp s01.hi h0 k2;have R02:=Hid.mk r02;clear r02;obtain⟨p03,c03,s03,r03⟩:=A4 Dp s02.hi h0 k3;have R03:=Hid.mk r03;clear r03;obtain⟨p10,c10,s10,r10⟩:=A4 s01.lo Dp h1 k0;have R10:=Hid.mk r10;clear r10;obtain⟨p11,c11,s11,r11⟩:=A4 s02.lo s10.hi h1 k1;have R11:=Hid.mk r11;clear r11;obtain⟨p12,c12,s12,r12⟩:=A4 s03.lo s11.hi h1 k2;have R12:=Hid.mk r12;clear r12;obtain⟨p13,c13,s13,r13⟩:=A4 s03.hi s12.hi h1 k3;have R13:=Hid.mk r13;clear r13;obtain⟨p20,c20,s20,r20⟩:=A4 s11.lo Dp h2 k0;have R20:=Hid.mk r20;clear r20;obtain⟨p21,c21,s21,r21⟩:=A4 s12.lo s20.hi h2 k1;have R21:=Hid.mk r21;clear r21;obtain⟨p22,c22,s22,r22⟩:=A4 s13.lo s21.hi h2 k2;have R22:=Hid.mk r22;clear r22;obtain⟨p23,c23,s23,r23⟩:=A4 s13.hi s22.hi h2 k3;have R23:=Hid.mk r23;clear r23;obtain⟨p30,c30,s30,r30⟩:=A4 s21.lo Dp h3 k0;have R30:=Hid.mk r30;clear r30;obtain⟨p31,c31,s31,r31⟩:=A4 s22.lo s30.hi h3 k1;have R31:=Hid.mk r31;clear r31;obtain⟨p32,c32,s32,r32⟩:=A4 s23.lo s31.hi h3 k2;have R32:=Hid.mk r32;clear r32;obtain⟨p33,c33,s33,r33⟩:=A4 s23.hi s32.hi h3 k3;have R33:=Hid.mk r33;clear r33;obtain⟨l0,d0,t0,q0⟩:=A4 s00.lo Dp s31.lo NL;have T0:=Hid.mk q0;clear q0;obtain⟨l1,d1,t1,q1⟩:=A4 s10.lo t0.hi s32.lo NL;have T1:=Hid.mk q1;clear q1;obtain⟨l2,d2,t2,q2⟩:=A4 s20.lo t1.hi s33.lo NL;have T2:=Hid.mk q2;clear q2;obtain⟨l3,d3,t3,q3⟩:=A4 s30.lo t2.hi s33.hi NL;have T3:=Hid.mk q3;clear q3;have e1:=TJ (Ky s00 s01 s02 s03) (Ky s10 s11 s12 s13) (Ky s20 s21 s22 s23) (Ky s30 s31 s32 s33);have e2:=YY t0 t1 t2 t3;have hc:=Wy (DI t0.lo t1.lo t2.lo t3.lo) (DI s00.lo s10.lo s20.lo s30.lo) (DI s31.lo s32.lo s33.lo s33.hi) e2;have hc0:=hc.1;have hc1:=hc.2;have E1:=Hid.mk e1;have E2:=Hid.mk e2;clear e1 e2 hc;go_enter func136,ntmps136;go_wp2;refine wp_loop_rounds 5 ?_;rw[rounds_succ];go_wp2;refine wp_loop_rounds 5 ?_;rw[rounds_succ];go_wp2;refine Ax (fun w'=>w'.cell? ⟨w.heap.size+1+1+1,0,none⟩=some (.int .u64 0)∧w'.cell? ⟨w.heap.size,0,none⟩=some (.int .u64 x0)∧w'.cell? ⟨w.heap.size+1,0,none⟩=some (.int .u64 y0))
  tF9 tT9 [0,1,2,3,4,5,6,7,8,9,10,11,12,13,14,15,16,17,18,19,20,21] rfl (by kernel_rfl) (fun _ _ d _ _ h=>by cases d<;>exact h) (by refine⟨?_,?_,?_⟩<;>go_simp) (fun HS=>?_)
 iterate 15
  first
   | (apply Av rfl rfl rfl;focus(intro wq;go_simp;first | done | with_reducible rfl))
   | (apply AK rfl rfl rfl HS;focus(intro wq hq;go_simp;first | done | with_reducible rfl))
  simp only[Act.put,Ac6,Ac7,Ac5]
 refine Ay rfl rfl rfl ?_;intro K hK
 go_simp
 refine(R00.out _).mono ?_;rintro e w' ⟨rfl,rfl⟩;refine hK _ _ (fun _ h=>h) ?_;clear hK K HS
 iterate 4
  apply Av rfl rfl rfl
  focus(intro wq;go_simp;first | done | with_reducible rfl)
  simp only[Act.put,Ac6,Ac7,Ac5]
 refine Ay rfl rfl rfl ?_;intro K hK
 go_simp
 refine hK _ _ (fun h=>by cases h) ?_;clear hK K;apply Av rfl rfl rfl
 focus(intro wq;go_simp;first | done | with_reducible rfl)
 simp only[Act.put,Ac6,Ac7,Ac5];refine Be ?_;go_wp2;rw[rounds_succ];go_wp2;refine Ax (fun w'=>w'.cell? ⟨w.heap.size+1+1+1,1,none⟩=some (.int .u64 0)∧w'.cell? ⟨w.heap.size,0,none⟩=some (.int .u64 x0)∧w'.cell? ⟨w.heap.size+1,1,none⟩=some (.int .u64 y1))
  tF9 tT9 [0,1,2,3,4,5,6,7,8,9,10,11,12,13,14,15,16,17,18,19,20,21] rfl (by kernel_rfl) (fun _ _ d _ _ h=>by cases d<;>exact h) (by refine⟨?_,?_,?_⟩<;>go_simp) (fun HS=>?_)
 iterate 15
  first
   | (apply Av rfl rfl rfl;focus(intro wq;go_simp;first | done | with_reducible rfl))
   | (apply AK rfl rfl rfl HS;focus(intro wq hq;go_simp;first | done | with_reducible rfl))
  simp only[Act.put,Ac6,Ac7,Ac5]
 refine Ay rfl rfl rfl ?_;intro K hK
 go_simp
 refine(R01.out _).mono ?_;rintro e w' ⟨rfl,rfl⟩;refine hK _ _ (fun _ h=>h) ?_;clear hK K HS
 iterate 4
  apply Av rfl rfl rfl
  focus(intro wq;go_simp;first | done | with_reducible rfl)
  simp only[Act.put,Ac6,Ac7,Ac5]
 refine Ay rfl rfl rfl ?_;intro K hK
 go_simp
 refine hK _ _ (fun h=>by cases h) ?_;clear hK K;apply Av rfl rfl rfl
 focus(intro wq;go_simp;first | done | with_reducible rfl)
 simp only[Act.put,Ac6,Ac7,Ac5];refine Be ?_;go_wp2;rw[rounds_succ];go_wp2;refine Ax (fun w'=>w'.cell? ⟨w.heap.size+1+1+1,2,none⟩=some (.int .u64 0)∧w'.cell? ⟨w.heap.size,0,none⟩=some (.int .u64 x0)∧w'.cell? ⟨w.heap.size+1,2,none⟩=some (.int .u64 y2))
  tF9 tT9 [0,1,2,3,4,5,6,7,8,9,10,11,12,13,14,15,16,17,18,19,20,21] rfl (by kernel_rfl) (fun _ _ d _ _ h=>by cases d<;>exact h) (by refine⟨?_,?_,?_⟩<;>go_simp) (fun HS=>?_)
 iterate 15
  first
   | (apply Av rfl rfl rfl;focus(intro wq;go_simp;first | done | with_reducible rfl))
   | (apply AK rfl rfl rfl HS;focus(intro wq hq;go_simp;first | done | with_reducible rfl))
  simp only[Act.put,Ac6,Ac7,Ac5]
 refine Ay rfl rfl rfl ?_;intro K hK
 go_simp
 refine(R02.out _).mono ?_;rintro e w' ⟨rfl,rfl⟩;refine hK _ _ (fun _ h=>h) ?_;clear hK K HS
 iterate 4
  apply Av rfl rfl rfl
  focus(intro wq;go_simp;first | done | with_reducible rfl)
  simp only[Act.put,Ac6,Ac7,Ac5]
 refine Ay rfl rfl rfl ?_;intro K hK
 go_simp
 refine hK _ _ (fun h=>by cases h) ?_;clear hK K;apply Av rfl rfl rfl
 focus(intro wq;go_simp;first | done | with_reducible rfl)
 simp only[Act.put,Ac6,Ac7,Ac5];refine Be ?_;go_wp2;rw[rounds_succ];go_wp2;refine Ax (fun w'=>w'.cell? ⟨w.heap.size+1+1+1,3,none⟩=some (.int .u64 0)∧w'.cell? ⟨w.heap.size,0,none⟩=some (.int .u64 x0)∧w'.cell? ⟨w.heap.size+1,3,none⟩=some (.int .u64 y3))
  tF9 tT9 [0,1,2,3,4,5,6,7,8,9,10,11,12,13,14,15,16,17,18,19,20,21] rfl (by kernel_rfl) (fun _ _ d _ _ h=>by cases d<;>exact h) (by refine⟨?_,?_,?_⟩<;>go_simp) (fun HS=>?_)
 iterate 15
  first
   | (apply Av rfl rfl rfl;focus(intro wq;go_simp;first | done | with_reducible rfl))
   | (apply AK rfl rfl rfl HS;focus(intro wq hq;go_simp;first | done | with_reducible rfl))
  simp only[Act.put,Ac6,Ac7,Ac5]
 refine Ay rfl rfl rfl ?_;intro K hK
 go_simp
 refine(R03.out _).mono ?_;rintro e w' ⟨rfl,rfl⟩;refine hK _ _ (fun _ h=>h) ?_;clear hK K HS
 iterate 4
  apply Av rfl rfl rfl
  focus(intro wq;go_simp;first | done | with_reducible rfl)
  simp only[Act.put,Ac6,Ac7,Ac5]
 refine Ay rfl rfl rfl ?_;intro K hK
 go_simp
 refine hK _ _ (fun h=>by cases h) ?_;clear hK K;apply Av rfl rfl rfl
 focus(intro wq;go_simp;first | done | with_reducible rfl)
 simp only[Act.put,Ac6,Ac7,Ac5];refine Be ?_;go_wp2;rw[rounds_succ];go_wp2;rw[rounds_succ];go_wp2;refine wp_loop_rounds 5 ?_;rw[rounds_succ];go_wp2;refine Ax (fun w'=>w'.cell? ⟨w.heap.size+1+1+1,1,none⟩=some (.int .u64 p01)∧w'.cell? ⟨w.heap.size,1,none⟩=some (.int .u64 x1)∧w'.cell? ⟨w.heap.size+1,0,none⟩=some (.int .u64 y0))
  tF9 tT9 [0,1,2,3,4,5,6,7,8,9,10,11,12,13,14,15,16,17,18,19,20,21] rfl (by kernel_rfl) (fun _ _ d _ _ h=>by cases d<;>exact h) (by refine⟨?_,?_,?_⟩<;>go_simp) (fun HS=>?_)
 iterate 15
  first
   | (apply Av rfl rfl rfl;focus(intro wq;go_simp;first | done | with_reducible rfl))
   | (apply AK rfl rfl rfl HS;focus(intro wq hq;go_simp;first | done | with_reducible rfl))
  simp only[Act.put,Ac6,Ac7,Ac5]
 refine Ay rfl rfl rfl ?_;intro K hK
 go_simp
 refine(R10.out _).mono ?_;rintro e w' ⟨rfl,rfl⟩;refine hK _ _ (fun _ h=>h) ?_;clear hK K HS
 iterate 4
  apply Av rfl rfl rfl
  focus(intro wq;go_simp;first | done | with_reducible rfl)
  simp only[Act.put,Ac6,Ac7,Ac5]
 refine Ay rfl rfl rfl ?_;intro K hK
 go_simp
 refine hK _ _ (fun h=>by cases h) ?_;clear hK K;apply Av rfl rfl rfl
 focus(intro wq;go_simp;first | done | with_reducible rfl)
 simp only[Act.put,Ac6,Ac7,Ac5];refine Be ?_;go_wp2;rw[rounds_succ];go_wp2;refine Ax (fun w'=>w'.cell? ⟨w.heap.size+1+1+1,2,none⟩=some (.int .u64 p02)∧w'.cell? ⟨w.heap.size,1,none⟩=some (.int .u64 x1)∧w'.cell? ⟨w.heap.size+1,1,none⟩=some (.int .u64 y1))
  tF9 tT9 [0,1,2,3,4,5,6,7,8,9,10,11,12,13,14,15,16,17,18,19,20,21] rfl (by kernel_rfl) (fun _ _ d _ _ h=>by cases d<;>exact h) (by refine⟨?_,?_,?_⟩<;>go_simp) (fun HS=>?_)
 iterate 15
  first
   | (apply Av rfl rfl rfl;focus(intro wq;go_simp;first | done | with_reducible rfl))
   | (apply AK rfl rfl rfl HS;focus(intro wq hq;go_simp;first | done | with_reducible rfl))
  simp only[Act.put,Ac6,Ac7,Ac5]
 refine Ay rfl rfl rfl ?_;intro K hK
 go_simp
 refine(R11.out _).mono ?_;rintro e w' ⟨rfl,rfl⟩;refine hK _ _ (fun _ h=>h) ?_;clear hK K HS
 iterate 4
  apply Av rfl rfl rfl
  focus(intro wq;go_simp;first | done | with_reducible rfl)
  simp only[Act.put,Ac6,Ac7,Ac5]
 refine Ay rfl rfl rfl ?_;intro K hK
 go_simp
 refine hK _ _ (fun h=>by cases h) ?_;clear hK K;apply Av rfl rfl rfl
 focus(intro wq;go_simp;first | done | with_reducible rfl)
 simp only[Act.put,Ac6,Ac7,Ac5];refine Be ?_;go_wp2;rw[rounds_succ];go_wp2;refine Ax (fun w'=>w'.cell? ⟨w.heap.size+1+1+1,3,none⟩=some (.int .u64 p03)∧w'.cell? ⟨w.heap.size,1,none⟩=some (.int .u64 x1)∧w'.cell? ⟨w.heap.size+1,2,none⟩=some (.int .u64 y2))
  tF9 tT9 [0,1,2,3,4,5,6,7,8,9,10,11,12,13,14,15,16,17,18,19,20,21] rfl (by kernel_rfl) (fun _ _ d _ _ h=>by cases d<;>exact h) (by refine⟨?_,?_,?_⟩<;>go_simp) (fun HS=>?_)
 iterate 15
  first
   | (apply Av rfl rfl rfl;focus(intro wq;go_simp;first | done | with_reducible rfl))
   | (apply AK rfl rfl rfl HS;focus(intro wq hq;go_simp;first | done | with_reducible rfl))
  simp only[Act.put,Ac6,Ac7,Ac5]
 refine Ay rfl rfl rfl ?_;intro K hK
 go_simp
 refine(R12.out _).mono ?_;rintro e w' ⟨rfl,rfl⟩;refine hK _ _ (fun _ h=>h) ?_;clear hK K HS
 iterate 4
  apply Av rfl rfl rfl
  focus(intro wq;go_simp;first | done | with_reducible rfl)
  simp only[Act.put,Ac6,Ac7,Ac5]
 refine Ay rfl rfl rfl ?_;intro K hK
 go_simp
 refine hK _ _ (fun h=>by cases h) ?_;clear hK K;apply Av rfl rfl rfl
 focus(intro wq;go_simp;first | done | with_reducible rfl)
 simp only[Act.put,Ac6,Ac7,Ac5];refine Be ?_;go_wp2;rw[rounds_succ];go_wp2;refine Ax (fun w'=>w'.cell? ⟨w.heap.size+1+1+1,4,none⟩=some (.int .u64 c03)∧w'.cell? ⟨w.heap.size,1,none⟩=some (.int .u64 x1)∧w'.cell? ⟨w.heap.size+1,3,none⟩=some (.int .u64 y3))
  tF9 tT9 [0,1,2,3,4,5,6,7,8,9,10,11,12,13,14,15,16,17,18,19,20,21] rfl (by kernel_rfl) (fun _ _ d _ _ h=>by cases d<;>exact h) (by refine⟨?_,?_,?_⟩<;>go_simp) (fun HS=>?_)
 iterate 15
  first
   | (apply Av rfl rfl rfl;focus(intro wq;go_simp;first | done | with_reducible rfl))
   | (apply AK rfl rfl rfl HS;focus(intro wq hq;go_simp;first | done | with_reducible rfl))
  simp only[Act.put,Ac6,Ac7,Ac5]
 refine Ay rfl rfl rfl ?_;intro K hK
 go_simp
 refine(R13.out _).mono ?_;rintro e w' ⟨rfl,rfl⟩;refine hK _ _ (fun _ h=>h) ?_;clear hK K HS
 iterate 4
  apply Av rfl rfl rfl
  focus(intro wq;go_simp;first | done | with_reducible rfl)
  simp only[Act.put,Ac6,Ac7,Ac5]
 refine Ay rfl rfl rfl ?_;intro K hK
 go_simp
 refine hK _ _ (fun h=>by cases h) ?_;clear hK K;apply Av rfl rfl rfl
 focus(intro wq;go_simp;first | done | with_reducible rfl)
 simp only[Act.put,Ac6,Ac7,Ac5];refine Be ?_;go_wp2;rw[rounds_succ];go_wp2;rw[rounds_succ];go_wp2;refine wp_loop_rounds 5 ?_;rw[rounds_succ];go_wp2;refine Ax (fun w'=>w'.cell? ⟨w.heap.size+1+1+1,2,none⟩=some (.int .u64 p11)∧w'.cell? ⟨w.heap.size,2,none⟩=some (.int .u64 x2)∧w'.cell? ⟨w.heap.size+1,0,none⟩=some (.int .u64 y0))
  tF9 tT9 [0,1,2,3,4,5,6,7,8,9,10,11,12,13,14,15,16,17,18,19,20,21] rfl (by kernel_rfl) (fun _ _ d _ _ h=>by cases d<;>exact h) (by refine⟨?_,?_,?_⟩<;>go_simp) (fun HS=>?_)
 iterate 15
  first
   | (apply Av rfl rfl rfl;focus(intro wq;go_simp;first | done | with_reducible rfl))
   | (apply AK rfl rfl rfl HS;focus(intro wq hq;go_simp;first | done | with_reducible rfl))
  simp only[Act.put,Ac6,Ac7,Ac5]
 refine Ay rfl rfl rfl ?_;intro K hK
 go_simp
 refine(R20.out _).mono ?_;rintro e w' ⟨rfl,rfl⟩;refine hK _ _ (fun _ h=>h) ?_;clear hK K HS
 iterate 4
  apply Av rfl rfl rfl
  focus(intro wq;go_simp;first | done | with_reducible rfl)
  simp only[Act.put,Ac6,Ac7,Ac5]
 refine Ay rfl rfl rfl ?_;intro K hK
 go_simp
 refine hK _ _ (fun h=>by cases h) ?_;clear hK K;apply Av rfl rfl rfl
 focus(intro wq;go_simp;first | done | with_reducible rfl)
 simp only[Act.put,Ac6,Ac7,Ac5];refine Be ?_;go_wp2;rw[rounds_succ];go_wp2;refine Ax (fun w'=>w'.cell? ⟨w.heap.size+1+1+1,3,none⟩=some (.int .u64 p12)∧w'.cell? ⟨w.heap.size,2,none⟩=some (.int .u64 x2)∧w'.cell? ⟨w.heap.size+1,1,none⟩=some (.int .u64 y1))
  tF9 tT9 [0,1,2,3,4,5,6,7,8,9,10,11,12,13,14,15,16,17,18,19,20,21] rfl (by kernel_rfl) (fun _ _ d _ _ h=>by cases d<;>exact h) (by refine⟨?_,?_,?_⟩<;>go_simp) (fun HS=>?_)
 iterate 15
  first
   | (apply Av rfl rfl rfl;focus(intro wq;go_simp;first | done | with_reducible rfl))
   | (apply AK rfl rfl rfl HS;focus(intro wq hq;go_simp;first | done | with_reducible rfl))
  simp only[Act.put,Ac6,Ac7,Ac5]
 refine Ay rfl rfl rfl ?_;intro K hK
 go_simp
 refine(R21.out _).mono ?_;rintro e w' ⟨rfl,rfl⟩;refine hK _ _ (fun _ h=>h) ?_;clear hK K HS
 iterate 4
  apply Av rfl rfl rfl
  focus(intro wq;go_simp;first | done | with_reducible rfl)
  simp only[Act.put,Ac6,Ac7,Ac5]
 refine Ay rfl rfl rfl ?_;intro K hK
 go_simp
 refine hK _ _ (fun h=>by cases h) ?_;clear hK K;apply Av rfl rfl rfl
 focus(intro wq;go_simp;first | done | with_reducible rfl)
 simp only[Act.put,Ac6,Ac7,Ac5];refine Be ?_;go_wp2;rw[rounds_succ];go_wp2;refine Ax (fun w'=>w'.cell? ⟨w.heap.size+1+1+1,4,none⟩=some (.int .u64 p13)∧w'.cell? ⟨w.heap.size,2,none⟩=some (.int .u64 x2)∧w'.cell? ⟨w.heap.size+1,2,none⟩=some (.int .u64 y2))
  tF9 tT9 [0,1,2,3,4,5,6,7,8,9,10,11,12,13,14,15,16,17,18,19,20,21] rfl (by kernel_rfl) (fun _ _ d _ _ h=>by cases d<;>exact h) (by refine⟨?_,?_,?_⟩<;>go_simp) (fun HS=>?_)
 iterate 15
  first
   | (apply Av rfl rfl rfl;focus(intro wq;go_simp;first | done | with_reducible rfl))
   | (apply AK rfl rfl rfl HS;focus(intro wq hq;go_simp;first | done | with_reducible rfl))
  simp only[Act.put,Ac6,Ac7,Ac5]
 refine Ay rfl rfl rfl ?_;intro K hK
 go_simp
 refine(R22.out _).mono ?_;rintro e w' ⟨rfl,rfl⟩;refine hK _ _ (fun _ h=>h) ?_;clear hK K HS
 iterate 4
  apply Av rfl rfl rfl
  focus(intro wq;go_simp;first | done | with_reducible rfl)
  simp only[Act.put,Ac6,Ac7,Ac5]
 refine Ay rfl rfl rfl ?_;intro K hK
 go_simp
 refine hK _ _ (fun h=>by cases h) ?_;clear hK K;apply Av rfl rfl rfl
 focus(intro wq;go_simp;first | done | with_reducible rfl)
 simp only[Act.put,Ac6,Ac7,Ac5];refine Be ?_;go_wp2;rw[rounds_succ];go_wp2;refine Ax (fun w'=>w'.cell? ⟨w.heap.size+1+1+1,5,none⟩=some (.int .u64 c13)∧w'.cell? ⟨w.heap.size,2,none⟩=some (.int .u64 x2)∧w'.cell? ⟨w.heap.size+1,3,none⟩=some (.int .u64 y3))
  tF9 tT9 [0,1,2,3,4,5,6,7,8,9,10,11,12,13,14,15,16,17,18,19,20,21] rfl (by kernel_rfl) (fun _ _ d _ _ h=>by cases d<;>exact h) (by refine⟨?_,?_,?_⟩<;>go_simp) (fun HS=>?_)
 iterate 15
  first
   | (apply Av rfl rfl rfl;focus(intro wq;go_simp;first | done | with_reducible rfl))
   | (apply AK rfl rfl rfl HS;focus(intro wq hq;go_simp;first | done | with_reducible rfl))
  simp only[Act.put,Ac6,Ac7,Ac5]
 refine Ay rfl rfl rfl ?_;intro K hK
 go_simp
 refine(R23.out _).mono ?_;rintro e w' ⟨rfl,rfl⟩;refine hK _ _ (fun _ h=>h) ?_;clear hK K HS
 iterate 4
  apply Av rfl rfl rfl
  focus(intro wq;go_simp;first | done | with_reducible rfl)
  simp only[Act.put,Ac6,Ac7,Ac5]
 refine Ay rfl rfl rfl ?_;intro K hK
 go_simp
 refine hK _ _ (fun h=>by cases h) ?_;clear hK K;apply Av rfl rfl rfl
 focus(intro wq;go_simp;first | done | with_reducible rfl)
 simp only[Act.put,Ac6,Ac7,Ac5];refine Be ?_;go_wp2;rw[rounds_succ];go_wp2;rw[rounds_succ];go_wp2;refine wp_loop_rounds 5 ?_;rw[rounds_succ];go_wp2;refine Ax (fun w'=>w'.cell? ⟨w.heap.size+1+1+1,3,none⟩=some (.int .u64 p21)∧w'.cell? ⟨w.heap.size,3,none⟩=some (.int .u64 x3)∧w'.cell? ⟨w.heap.size+1,0,none⟩=some (.int .u64 y0))
  tF9 tT9 [0,1,2,3,4,5,6,7,8,9,10,11,12,13,14,15,16,17,18,19,20,21] rfl (by kernel_rfl) (fun _ _ d _ _ h=>by cases d<;>exact h) (by refine⟨?_,?_,?_⟩<;>go_simp) (fun HS=>?_)
 iterate 15
  first
   | (apply Av rfl rfl rfl;focus(intro wq;go_simp;first | done | with_reducible rfl))
   | (apply AK rfl rfl rfl HS;focus(intro wq hq;go_simp;first | done | with_reducible rfl))
  simp only[Act.put,Ac6,Ac7,Ac5]
 refine Ay rfl rfl rfl ?_;intro K hK
 go_simp
 refine(R30.out _).mono ?_;rintro e w' ⟨rfl,rfl⟩;refine hK _ _ (fun _ h=>h) ?_;clear hK K HS
 iterate 4
  apply Av rfl rfl rfl
  focus(intro wq;go_simp;first | done | with_reducible rfl)
  simp only[Act.put,Ac6,Ac7,Ac5]
 refine Ay rfl rfl rfl ?_;intro K hK
 go_simp
 refine hK _ _ (fun h=>by cases h) ?_;clear hK K;apply Av rfl rfl rfl
 focus(intro wq;go_simp;first | done | with_reducible rfl)
 simp only[Act.put,Ac6,Ac7,Ac5];refine Be ?_;go_wp2;rw[rounds_succ];go_wp2;refine Ax (fun w'=>w'.cell? ⟨w.heap.size+1+1+1,4,none⟩=some (.int .u64 p22)∧w'.cell? ⟨w.heap.size,3,none⟩=some (.int .u64 x3)∧w'.cell? ⟨w.heap.size+1,1,none⟩=some (.int .u64 y1))
  tF9 tT9 [0,1,2,3,4,5,6,7,8,9,10,11,12,13,14,15,16,17,18,19,20,21] rfl (by kernel_rfl) (fun _ _ d _ _ h=>by cases d<;>exact h) (by refine⟨?_,?_,?_⟩<;>go_simp) (fun HS=>?_)
 iterate 15
  first
   | (apply Av rfl rfl rfl;focus(intro wq;go_simp;first | done | with_reducible rfl))
   | (apply AK rfl rfl rfl HS;focus(intro wq hq;go_simp;first | done | with_reducible rfl))
  simp only[Act.put,Ac6,Ac7,Ac5]
 refine Ay rfl rfl rfl ?_;intro K hK
 go_simp
 refine(R31.out _).mono ?_;rintro e w' ⟨rfl,rfl⟩;refine hK _ _ (fun _ h=>h) ?_;clear hK K HS
 iterate 4
  apply Av rfl rfl rfl
  focus(intro wq;go_simp;first | done | with_reducible rfl)
  simp only[Act.put,Ac6,Ac7,Ac5]
 refine Ay rfl rfl rfl ?_;intro K hK
 go_simp
 refine hK _ _ (fun h=>by cases h) ?_;clear hK K;apply Av rfl rfl rfl
 focus(intro wq;go_simp;first | done | with_reducible rfl)
 simp only[Act.put,Ac6,Ac7,Ac5];refine Be ?_;go_wp2;rw[rounds_succ];go_wp2;refine Ax (fun w'=>w'.cell? ⟨w.heap.size+1+1+1,5,none⟩=some (.int .u64 p23)∧w'.cell? ⟨w.heap.size,3,none⟩=some (.int .u64 x3)∧w'.cell? ⟨w.heap.size+1,2,none⟩=some (.int .u64 y2))
  tF9 tT9 [0,1,2,3,4,5,6,7,8,9,10,11,12,13,14,15,16,17,18,19,20,21] rfl (by kernel_rfl) (fun _ _ d _ _ h=>by cases d<;>exact h) (by refine⟨?_,?_,?_⟩<;>go_simp) (fun HS=>?_)
 iterate 15
  first
   | (apply Av rfl rfl rfl;focus(intro wq;go_simp;first | done | with_reducible rfl))
   | (apply AK rfl rfl rfl HS;focus(intro wq hq;go_simp;first | done | with_reducible rfl))
  simp only[Act.put,Ac6,Ac7,Ac5]
 refine Ay rfl rfl rfl ?_;intro K hK
 go_simp
 refine(R32.out _).mono ?_;rintro e w' ⟨rfl,rfl⟩;refine hK _ _ (fun _ h=>h) ?_;clear hK K HS
 iterate 4
  apply Av rfl rfl rfl
  focus(intro wq;go_simp;first | done | with_reducible rfl)
  simp only[Act.put,Ac6,Ac7,Ac5]
 refine Ay rfl rfl rfl ?_;intro K hK
 go_simp
 refine hK _ _ (fun h=>by cases h) ?_;clear hK K;apply Av rfl rfl rfl
 focus(intro wq;go_simp;first | done | with_reducible rfl)
 simp only[Act.put,Ac6,Ac7,Ac5];refine Be ?_;go_wp2;rw[rounds_succ];go_wp2;refine Ax (fun w'=>w'.cell? ⟨w.heap.size+1+1+1,6,none⟩=some (.int .u64 c23)∧w'.cell? ⟨w.heap.size,3,none⟩=some (.int .u64 x3)∧w'.cell? ⟨w.heap.size+1,3,none⟩=some (.int .u64 y3))
  tF9 tT9 [0,1,2,3,4,5,6,7,8,9,10,11,12,13,14,15,16,17,18,19,20,21] rfl (by kernel_rfl) (fun _ _ d _ _ h=>by cases d<;>exact h) (by refine⟨?_,?_,?_⟩<;>go_simp) (fun HS=>?_)
 iterate 15
  first
   | (apply Av rfl rfl rfl;focus(intro wq;go_simp;first | done | with_reducible rfl))
   | (apply AK rfl rfl rfl HS;focus(intro wq hq;go_simp;first | done | with_reducible rfl))
  simp only[Act.put,Ac6,Ac7,Ac5]
 refine Ay rfl rfl rfl ?_;intro K hK
 go_simp
 refine(R33.out _).mono ?_;rintro e w' ⟨rfl,rfl⟩;refine hK _ _ (fun _ h=>h) ?_;clear hK K HS
 iterate 4
  apply Av rfl rfl rfl
  focus(intro wq;go_simp;first | done | with_reducible rfl)
  simp only[Act.put,Ac6,Ac7,Ac5]
 refine Ay rfl rfl rfl ?_;intro K hK
 go_simp
 refine hK _ _ (fun h=>by cases h) ?_;clear hK K;apply Av rfl rfl rfl
 focus(intro wq;go_simp;first | done | with_reducible rfl)
 simp only[Act.put,Ac6,Ac7,Ac5];refine Be ?_;go_wp2;rw[rounds_succ];go_wp2;rw[rounds_succ];go_wp2;refine wp_loop_rounds 5 ?_;rw[rounds_succ];go_wp2;refine Ax (fun w'=>w'.cell? ⟨w.heap.size+1+1+1,0,none⟩=some (.int .u64 p00)∧w'.cell? ⟨w.heap.size+1+1+1,4,none⟩=some (.int .u64 p31))
  YZ Zc [0,1,2,3,4,5,6,7,8,9,10,11,12,13,14,15] rfl (by kernel_rfl) (fun _ _ d _ _ h=>by cases d<;>exact h) (by refine⟨?_,?_⟩<;>go_simp) (fun HS=>?_)
 iterate 9
  first
   | (apply Av rfl rfl rfl;focus(intro wq;go_simp;first | done | with_reducible rfl))
   | (apply AK rfl rfl rfl HS;focus(intro wq hq;go_simp;first | done | with_reducible rfl))
  simp only[Act.put,Ac6,Ac7,Ac5]
 refine Ay rfl rfl rfl ?_;intro K hK
 go_simp
 refine(T0.out _).mono ?_;rintro e w' ⟨rfl,rfl⟩;refine hK _ _ (fun _ h=>h) ?_;clear hK K HS
 iterate 4
  apply Av rfl rfl rfl
  focus(intro wq;go_simp;first | done | with_reducible rfl)
  simp only[Act.put,Ac6,Ac7,Ac5]
 refine Ay rfl rfl rfl ?_;intro K hK
 go_simp
 refine hK _ _ (fun h=>by cases h) ?_;clear hK K;apply Av rfl rfl rfl
 focus(intro wq;go_simp;first | done | with_reducible rfl)
 simp only[Act.put,Ac6,Ac7,Ac5];refine Be ?_;go_wp2;rw[rounds_succ];go_wp2;refine Ax (fun w'=>w'.cell? ⟨w.heap.size+1+1+1,1,none⟩=some (.int .u64 p10)∧w'.cell? ⟨w.heap.size+1+1+1,5,none⟩=some (.int .u64 p32))
  YZ Zc [0,1,2,3,4,5,6,7,8,9,10,11,12,13,14,15] rfl (by kernel_rfl) (fun _ _ d _ _ h=>by cases d<;>exact h) (by refine⟨?_,?_⟩<;>go_simp) (fun HS=>?_)
 iterate 9
  first
   | (apply Av rfl rfl rfl;focus(intro wq;go_simp;first | done | with_reducible rfl))
   | (apply AK rfl rfl rfl HS;focus(intro wq hq;go_simp;first | done | with_reducible rfl))
  simp only[Act.put,Ac6,Ac7,Ac5]
 refine Ay rfl rfl rfl ?_;intro K hK
 go_simp
 refine(T1.out _).mono ?_;rintro e w' ⟨rfl,rfl⟩;refine hK _ _ (fun _ h=>h) ?_;clear hK K HS
 iterate 4
  apply Av rfl rfl rfl
  focus(intro wq;go_simp;first | done | with_reducible rfl)
  simp only[Act.put,Ac6,Ac7,Ac5]
 refine Ay rfl rfl rfl ?_;intro K hK
 go_simp
 refine hK _ _ (fun h=>by cases h) ?_;clear hK K;apply Av rfl rfl rfl
 focus(intro wq;go_simp;first | done | with_reducible rfl)
 simp only[Act.put,Ac6,Ac7,Ac5];refine Be ?_;go_wp2;rw[rounds_succ];go_wp2;refine Ax (fun w'=>w'.cell? ⟨w.heap.size+1+1+1,2,none⟩=some (.int .u64 p20)∧w'.cell? ⟨w.heap.size+1+1+1,6,none⟩=some (.int .u64 p33))
  YZ Zc [0,1,2,3,4,5,6,7,8,9,10,11,12,13,14,15] rfl (by kernel_rfl) (fun _ _ d _ _ h=>by cases d<;>exact h) (by refine⟨?_,?_⟩<;>go_simp) (fun HS=>?_)
 iterate 9
  first
   | (apply Av rfl rfl rfl;focus(intro wq;go_simp;first | done | with_reducible rfl))
   | (apply AK rfl rfl rfl HS;focus(intro wq hq;go_simp;first | done | with_reducible rfl))
  simp only[Act.put,Ac6,Ac7,Ac5]
 refine Ay rfl rfl rfl ?_;intro K hK
 go_simp
 refine(T2.out _).mono ?_;rintro e w' ⟨rfl,rfl⟩;refine hK _ _ (fun _ h=>h) ?_;clear hK K HS
 iterate 4
  apply Av rfl rfl rfl
  focus(intro wq;go_simp;first | done | with_reducible rfl)
  simp only[Act.put,Ac6,Ac7,Ac5]
 refine Ay rfl rfl rfl ?_;intro K hK
 go_simp
 refine hK _ _ (fun h=>by cases h) ?_;clear hK K;apply Av rfl rfl rfl
 focus(intro wq;go_simp;first | done | with_reducible rfl)
 simp only[Act.put,Ac6,Ac7,Ac5];refine Be ?_;go_wp2;rw[rounds_succ];go_wp2;refine Ax (fun w'=>w'.cell? ⟨w.heap.size+1+1+1,3,none⟩=some (.int .u64 p30)∧w'.cell? ⟨w.heap.size+1+1+1,7,none⟩=some (.int .u64 c33))
  YZ Zc [0,1,2,3,4,5,6,7,8,9,10,11,12,13,14,15] rfl (by kernel_rfl) (fun _ _ d _ _ h=>by cases d<;>exact h) (by refine⟨?_,?_⟩<;>go_simp) (fun HS=>?_)
 iterate 9
  first
   | (apply Av rfl rfl rfl;focus(intro wq;go_simp;first | done | with_reducible rfl))
   | (apply AK rfl rfl rfl HS;focus(intro wq hq;go_simp;first | done | with_reducible rfl))
  simp only[Act.put,Ac6,Ac7,Ac5]
 refine Ay rfl rfl rfl ?_;intro K hK
 go_simp
 refine(T3.out _).mono ?_;rintro e w' ⟨rfl,rfl⟩;refine hK _ _ (fun _ h=>h) ?_;clear hK K HS
 iterate 4
  apply Av rfl rfl rfl
  focus(intro wq;go_simp;first | done | with_reducible rfl)
  simp only[Act.put,Ac6,Ac7,Ac5]
 refine Ay rfl rfl rfl ?_;intro K hK
 go_simp
 refine hK _ _ (fun h=>by cases h) ?_;clear hK K;apply Av rfl rfl rfl
 focus(intro wq;go_simp;first | done | with_reducible rfl)
 simp only[Act.put,Ac6,Ac7,Ac5];refine Be ?_;go_wp2;rw[rounds_succ];go_wp2_with fail;refine(Ot _ _ _ _ _ _ t0.lo t1.lo t2.lo t3.lo hc0 hc1).mono ?_;rintro e w1 ⟨q0,q1,q2,q3,hq0,hq1,hq2,hq3,⟨k,ek⟩,rfl,hb1⟩;have g4:=Aj hb1 (Wz w _ _ _ _ _) (by simp<;>omega)
 have hB1:Hid (Below w.heap.size w w1):=by
  refine Below.trans ?_ (hb1.mono (by simp<;>omega))
  repeat first | exact Below.refl _ _ | refine Below.alloc ?_ (by simp<;>omega) _ | refine Below.drew ?_ | refine Below.drewN' ?_ _
 clear hb1;have EK:=Hid.mk (TK E1.out E2.out ek);clear ek
 go_wp2_with (refine DK rfl _ _ rfl _ _ _ _ _ rfl rfl _ _ _ _ g4 ?_;intro w2 g5 o5)
 exact bodyPost_ret (v:=.agg #[.int .u64 q0,.int .u64 q1,.int .u64 q2,.int .u64 q3]) (results_cell_row rfl _ _ _ _ _ _ _ rfl g5 underlying142 rfl (by kernel_rfl)) rfl
  ⟨q0,q1,q2,q3,hq0,hq1,hq2,hq3,⟨_,EK.out⟩,rfl,Below.trans hB1.out (Only.below (b:=w.heap.size+1+1) (B:=w.heap.size) o5 (by omega))⟩
def CX:List Int→Int
 | []=>1
 | x::l=>x*CX l
theorem NM(l m:List Int):CX (l++m)=CX l*CX m:=by
 induction l with
 | nil=>simp[CX]
 | cons x l ih=>simp only[List.cons_append,CX,ih,AcC]
theorem ML(ns:List Int)(k:Nat)(h:k<ns.length):CX (ns.take (k+1))=CX (ns.take k)*ns[k]:=by
 rw[List.take_succ_eq_append_getElem h,NM];simp[CX]
theorem W9{ns:List Int}{k:Nat}{Z Q c n:Int}(hz:∃c:Int,Z=CX (ns.take k)+c*P255)(e:Q=Z*n+c*P255)(hs:CX (ns.take (k+1))=CX (ns.take k)*n):∃c:Int,Q=CX (ns.take (k+1))+c*P255:=by
 obtain⟨d,rfl⟩:=hz;exact⟨d*n+c,by rw[e,hs,Int.add_mul,Int.add_mul,AcC,AcL P255 n,←AcC];omega⟩
theorem OQ{ns:List Int}{Z:Int}(hz:∃c:Int,Z=CX (ns.take ns.length)+c*P255):Z%P255=CX ns%P255:=by
 obtain⟨d,rfl⟩:=hz;rw[List.take_length,AcL,Adn]
theorem OR(b off cap:Nat)(ns:List Int)(w:World)(hr:∀n∈ns,0≤n∧n<Bj)(hrows:RowsAt w b off ns)(hb:b<w.heap.size)(hlen:ns.length≤4611686018427387904)(hcap:ns.length≤cap)(h1:1≤ns.length):Calls prog 103 #[.slice (some ⟨b,off,none⟩) ns.length cap] w fun e w'=>e=.returned (.agg (BA (CX ns%P255)))∧Below w.heap.size w w':=by
 have hz:((ns.length:Int)==0)=false:=by simp;intro h;simp[h] at h1
 have hn0:=hr _ (List.getElem_mem (show 0<ns.length by omega));have r0:=hrows 0 (by omega);have hgd:ns.getD 0 0=ns[0]:=by simp[show 0<ns.length by omega]
 rw[hgd] at r0;have E0:=Hid.mk (ML ns 0 (by omega));have HR:=Hid.mk hr;have HW:=Hid.mk hrows;clear hr hrows hgd;simp only[Nat.zero_mul,AcU] at r0;generalize ns[0]=n0 at *;have R0:Hid (∀v,Below w.heap.size w v→v.rangeAt b off (BA n0).toList):=fun v hB j x hx=>(hB.cell hb).trans (r0 j x hx)
 clear r0
 rcases Nat.eq_or_lt_of_le (show 1≤cap by omega) with hc | hc
 ·subst hc
  go_enter func103,ntmps103
  go_wp2_with (refine C5 rfl _ rfl _ _ n0 rfl (R0.out _ ((Below.refl _ _).alloc (Ac4 _) _)) ?_)
  refine(Ei n0 _).mono ?_;rintro e v0 ⟨rfl,hb0⟩;have gz:=Aj hb0 (heap_alloc_new w _) (by simp<;>omega);have hB:=Below.trans ((Below.refl _ w).alloc (Ac4 _) _) (hb0.mono (by simp<;>omega));clear hb0
  go_wp2_with (refine DK rfl _ _ rfl _ _ _ _ _ rfl rfl _ _ _ _ (heap_alloc_new v0 _) ?_;intro v1 g1 o1)
  have hsz:w.heap.size<v0.heap.size:=Aa gz;have gz1:=(o1.block _ (by omega)).trans ((Below.heap_alloc v0 _ _ hsz).trans gz);have hB1:Below w.heap.size w v1:=Below.trans (hB.alloc (by omega) _) (Only.below (b:=v0.heap.size) (B:=w.heap.size) o1 (by omega));clear o1 gz hB;generalize v0.heap.size=bs at *;refine wp_loop_rounds 1 ?_;rw[rounds_succ];have e1:ns.length=1:=by omega
  have Z1:Hid (∃c:Int,V4 (Eh n0 0) (Eh n0 8) (Eh n0 16) (Eh n0 24)=CX (ns.take ns.length)+c*P255):=⟨0,by rw[Eb hn0.1 hn0.2,e1,E0.out];simp[CX]⟩;have e2:((ns.length-1:Nat):Int)=0:=by omega
  clear e1
  go_wp2_with (refine Fa rfl _ rfl _ _ _ _ _ rfl g1 ?_)
  refine(D7 _ _ _ _ _ (AO _ _) (AO _ _) (AO _ _) (AO _ _)).mono ?_;rintro e v2 ⟨rfl,hb2⟩;have gz2:=Aj hb2 gz1 (Aa gz1);have hB2:=Below.trans hB1 (hb2.mono hB1.size);clear hb2
  go_wp2_with (refine BD rfl _ _ rfl _ _ rfl rfl _ gz2 rfl ?_;intro v3 g3 o3)
  rw[OQ Z1.out] at g3;exact bodyPost_ret (v:=.agg (BA (CX ns%P255))) (results_cell_row rfl _ _ _ _ _ _ _ rfl g3 underlying22 rfl (by rw[Ah];exact Bk)) rfl
   ⟨rfl,Below.trans hB2 (Only.below (b:=w.heap.size) (B:=w.heap.size) o3 (by omega))⟩
 ·have hc':¬cap=1:=by omega
  go_enter func103,ntmps103
  go_wp2_with (refine C5 rfl _ rfl _ _ n0 rfl (R0.out _ ((Below.refl _ _).alloc (Ac4 _) _)) ?_)
  refine(Ei n0 _).mono ?_;rintro e v0 ⟨rfl,hb0⟩;have gz:=Aj hb0 (heap_alloc_new w _) (by simp<;>omega);have hB:=Below.trans ((Below.refl _ w).alloc (Ac4 _) _) (hb0.mono (by simp<;>omega));clear hb0
  go_wp2_with (refine DK rfl _ _ rfl _ _ _ _ _ rfl rfl _ _ _ _ (heap_alloc_new v0 _) ?_;intro v1 g1 o1)
  have hsz:w.heap.size<v0.heap.size:=Aa gz;have gz1:=(o1.block _ (by omega)).trans ((Below.heap_alloc v0 _ _ hsz).trans gz);have hB1:Below w.heap.size w v1:=Below.trans (hB.alloc (by omega) _) (Only.below (b:=v0.heap.size) (B:=w.heap.size) o1 (by omega));clear o1 gz hB;generalize v0.heap.size=bs at *
  go_loopw [17] (fun i v=>∃k:Nat,k+1≤ns.length∧i=.int .i64 k∧∃z0 z1 z2 z3,U64 z0∧U64 z1∧U64 z2∧U64 z3∧(∃c:Int,V4 z0 z1 z2 z3=CX (ns.take (k+1))+c*P255) ∧
    v.heap[bs]?=some (.cells #[.int .u64 z0,.int .u64 z1,.int .u64 z2,.int .u64 z3] 142 (0,0))∧(∃z:Array Value,v.heap[w.heap.size]?=some (.cells z 22 (0,0))∧z.size=32)∧Below w.heap.size w v)
   (fun i _=>ns.length-(intOf i).toNat)
  case atStart =>
   exact⟨0,h1,rfl,_,_,_,_,AO _ _,AO _ _,AO _ _,AO _ _,⟨0,by rw[Eb hn0.1 hn0.2,E0.out];simp[CX]⟩,g1,⟨_,gz1,rfl⟩,hB1⟩
  case round =>
   clear g1 gz1 hB1;obtain⟨k,hk,rfl,z0,z1,z2,z3,hz0,hz1,hz2,hz3,hzz,gs,⟨z,gz,sz⟩,hB⟩:=hrel;have HZ:=Hid.mk hzz;clear hzz
   by_cases hlt:k+1<ns.length
   ·have hn:=HR.out _ (List.getElem_mem hlt)
    have hrow:wr.rangeAt b (off+32+k*32) (BA (ns.getD (k+1) 0)).toList:=fun j v hv=>by
     have h2:=HW.out (k+1) hlt j v hv;rw[show off+(k+1)*32=off+32+k*32 by omega] at h2;exact(hB.cell hb).trans h2
    have hgd:ns.getD (k+1) 0=ns[k+1]:=by simp[hlt]
    rw[hgd] at hrow;have hsn:=Hid.mk (ML ns (k+1) hlt);clear hgd;generalize ns[k+1]=n at *;have HROW:=Hid.mk hrow;clear hrow;have hlt2:(k:Int)<((ns.length-1:Nat):Int):=by omega
    have hlt3:k<ns.length-1:=by omega
    go_wp2_with (first|(refine C5 rfl _ rfl _ _ n rfl HROW.out ?_)|(refine BD rfl _ _ rfl _ n rfl rfl _ (heap_alloc_new wr _) rfl ?_;intro v1 g1 o1))
    have hsz2:bs<wr.heap.size:=Aa gs;have gs1:=(o1.block _ (by omega)).trans ((Below.heap_alloc wr _ _ hsz2).trans gs);have gz1:=(o1.block _ (by omega)).trans ((Below.heap_alloc wr _ _ (by omega)).trans gz);have hB1:Below w.heap.size w v1:=Below.trans (hB.alloc (by omega) _) (Only.below (b:=wr.heap.size) (B:=w.heap.size) o1 (by omega));clear o1 gs gz hB;generalize wr.heap.size=bw at *;refine Ax (fun v=>v.heap[bs]?=some (.cells #[.int .u64 z0,.int .u64 z1,.int .u64 z2,.int .u64 z3] 142 (0,0))∧v.heap[bw]?=some (.cells (BA n) 22 (0,0)))
     AbA AbB [0,1,2,3,4] rfl (by kernel_rfl) (fun _ _ d _ _ h=>by cases d<;>exact h) ⟨gs1,g1⟩ (fun HS=>?_)
    apply AK rfl rfl rfl HS
    focus exact fun v h=>Ll rfl _ _ _ _ _ rfl h.1
    simp only[Act.put,Ac6,Ac7,Ac5];apply AK rfl rfl rfl HS
    focus exact fun v h=>Bi rfl _ _ rfl (Ah _) h.2
    simp only[Act.put,Ac6,Ac7,Ac5];clear HS g1;refine Ay rfl rfl rfl ?_;intro K hK
    go_simp
    refine(Ei n _).mono ?_;rintro e v2 ⟨rfl,hb2⟩;have gs2:=Aj hb2 gs1 (Aa gs1);have gz2:=Aj hb2 gz1 (Aa gz1);have hB2:=Below.trans (Below.drew hB1) (hb2.mono hB1.size);refine hK _ _ (fun _ h=>⟨Aj hb2 h.1 (Aa h.1),Aj hb2 h.2 (Aa h.2)⟩) ?_;clear hK K hb2 gs1 gz1 hB1;refine Ay rfl rfl rfl ?_;intro K hK
    go_simp
    refine(J4 _ _ _ _ _ _ _ _ _ hz0 hz1 hz2 hz3 (AO _ _) (AO _ _) (AO _ _) (AO _ _)).mono ?_;rintro e v3 ⟨q0,q1,q2,q3,hq0,hq1,hq2,hq3,⟨c,ec⟩,rfl,hb3⟩;rw[Eb hn.1 hn.2] at ec;have EC:=Hid.mk ec;clear ec;have gs3:=Aj hb3 gs2 (Aa gs2);have gz3:=Aj hb3 gz2 (Aa gz2);have hB3:=Below.trans hB2 (hb3.mono hB2.size);refine hK _ _ (fun _ h=>⟨Aj hb3 h.1 (Aa h.1),Aj hb3 h.2 (Aa h.2)⟩) ?_;clear hK K hb3 gs2 gz2 hB2;refine Ay rfl rfl rfl ?_;intro K hK;refine MK _ _ rfl _ _ _ _ _ rfl rfl _ _ _ _ gs3 ?_;intro v4 g4 o4;refine hK _ _ (fun h=>by cases h) ?_;clear hK K;refine Be ?_;have gz4:=(o4.block _ (by omega)).trans gz3;have hB4:Below w.heap.size w v4:=Below.trans hB3 (Only.below (b:=bs) (B:=w.heap.size) o4 (by omega));clear o4 gs3 gz3 hB3;go_wp2
    go_roundw
    case rel=>exact⟨k+1,by omega,by go_num,q0,q1,q2,q3,hq0,hq1,hq2,hq3,W9 HZ.out EC.out hsn.out,g4,⟨z,gz4,sz⟩,hB4⟩
    case measure=>simp[intOf];omega
   ·have hk2:k+1=ns.length:=by omega
    have HZ2:=HZ.out;rw[hk2] at HZ2;have HZ3:=Hid.mk HZ2;have hk3:¬(k:Int)<((ns.length-1:Nat):Int):=by omega
    clear hk2 HZ2
    go_wp2_with (refine Fa rfl _ rfl _ _ _ _ _ rfl gs ?_)
    refine(D7 _ _ _ _ _ hz0 hz1 hz2 hz3).mono ?_;rintro e v2 ⟨rfl,hb2⟩;have gz2:=Aj hb2 gz (Aa gz);have hB2:=Below.trans hB (hb2.mono hB.size);clear hb2
    go_wp2_with (refine BD rfl _ _ rfl _ _ rfl rfl _ gz2 sz ?_;intro v3 g3 o3)
    rw[OQ HZ3.out] at g3;exact bodyPost_ret (v:=.agg (BA (CX ns%P255))) (results_cell_row rfl _ _ _ _ _ _ _ rfl g3 underlying22 rfl (by rw[Ah];exact Bk)) rfl
     ⟨rfl,Below.trans hB2 (Only.below (b:=w.heap.size) (B:=w.heap.size) o3 (by omega))⟩
theorem WB(w:World)(A B:Obj):((w.alloc A).alloc B).heap[w.heap.size]?=some A:=heap_alloc2_old w A B
theorem AbC:U64 1:=by unfold U64;omega
def Cq(e:Int)(k:Nat):Nat:=e.toNat/2 ^ (256-k)
theorem TL{a e:Int}(h1:e<Bj):V4 1 0 0 0=a ^ Cq e 0+0*P255:=by
 unfold Cq;have:e.toNat/2 ^ 256=0:=Nat.div_eq_of_lt (by unfold Bj at h1;omega);rw[NI,show 256-0=256 from rfl,this];simp
theorem Ik(x:Int)(h0:0≤x)(h1:x<256):bits BinOp.and IntKind.u8 x 1=x%2:=by go_bits2
theorem NO(e:Int)(m:Nat)(he:0≤e):(byt e (m/8)/2 ^ (m%8))%2=((e.toNat/2 ^ m%2:Nat):Int):=by
 obtain⟨E,rfl⟩:=AcQ he;rw[AcZ]
 have e1:E/2 ^ m=E/256 ^ (m/8)/2 ^ (m%8):=by
  rw[Nat.div_div_eq_div_mul];congr 1;rw[show (256:Nat)=2 ^ 8 from rfl,←Nat.pow_mul,←Nat.pow_add];congr 1;omega
 have e2:byt (E:Int) (m/8)=((E/256 ^ (m/8)%256:Nat):Int):=by
  unfold byt;rw[show ((256:Int) ^ (m/8))=((256 ^ (m/8):Nat):Int) from by rw[Int.natCast_pow];rfl];omega
 rw[e1,e2];generalize E/256 ^ (m/8)=G;have hj:m%8<8:=by omega
 generalize m%8=j at *;have:j=0∨j=1∨j=2∨j=3∨j=4∨j=5∨j=6∨j=7:=by omega
 rcases this with rfl | rfl | rfl | rfl | rfl | rfl | rfl | rfl<;>omega
theorem IG(e:Int)(k:Nat)(h:k<256)(he:0≤e):Cq e (k+1)=2*Cq e k+(if (bits BinOp.and IntKind.u8 (byt e ((255-k)/8)/2 ^ ((255-k)%8)) 1==1)=true then 1 else 0):=by
 have hb:=Bp e ((255-k)/8);unfold BO at hb;have hp:(0:Int)<2 ^ ((255-k)%8):=Int.pow_pos (by decide);have h0:0≤byt e ((255-k)/8)/2 ^ ((255-k)%8):=Int.ediv_nonneg hb.1 (by omega)
 have h1:byt e ((255-k)/8)/2 ^ ((255-k)%8)<256:=by
  have:=Int.ediv_le_self (2 ^ ((255-k)%8)) hb.1;omega
 rw[Ik _ h0 h1,NO e (255-k) he];unfold Cq;rw[show 256-(k+1)=255-k by omega,show 256-k=(255-k)+1 by omega,Nat.pow_succ,←Nat.div_div_eq_div_mul];generalize e.toNat/2 ^ (255-k)=G;have hG:G%2=0∨G%2=1:=by omega
 rcases hG with hG | hG<;>simp[hG]<;>omega
theorem Aa9{A Z Q c:Int}(hz:∃c:Int,Z=A+c*P255)(e:Q=Z*Z+c*P255):∃c:Int,Q=A*A+c*P255:=by
 obtain⟨d,rfl⟩:=hz;exact⟨2*A*d+d*d*P255+c,by rw[e];grind⟩
theorem WC{a Q:Int}{t:Nat}(h:∃c:Int,Q=a ^ t*a ^ t+c*P255):∃c:Int,Q=a ^ (2*t+(if false=true then 1 else 0))+c*P255:=by
 obtain⟨c,h⟩:=h;exact⟨c,by rw[h,←AcO];simp;rw[Nat.two_mul]⟩
theorem Zd{a Q S d:Int}{t:Nat}(h:∃c:Int,Q=a ^ t*a ^ t+c*P255)(e:S=Q*a+d*P255):∃c:Int,S=a ^ (2*t+(if true=true then 1 else 0))+c*P255:=by
 obtain⟨c,rfl⟩:=h;refine⟨c*a+d,?_⟩;rw[e];simp only[if_true,AcF,Nat.two_mul,AcO]
 grind
theorem WD{a e Z:Int}(hz:∃c:Int,Z=a ^ Cq e 256+c*P255):Z%P255=a ^ e.toNat%P255:=by
 obtain⟨d,rfl⟩:=hz;rw[AcL,Adn];simp[Cq]
theorem Ze(a e:Int)(w:World)(ha0:0≤a)(ha1:a<Bj)(he0:0≤e)(he1:e<Bj):Calls prog 137 #[.agg (BA a),.agg (BA e)] w fun r w'=>r=.returned (.agg (BA (a ^ e.toNat%P255)))∧Below w.heap.size w w':=by
 go_enter func137,ntmps137
 go_wp2_with (refine A7 rfl _ rfl _ _ rfl (AA w _ _ _) (Ah _) ?_)
 refine(Ei a _).mono ?_;rintro r v0 ⟨rfl,hb0⟩;have ge:=Aj hb0 (AG w _ _ _) (by simp<;>omega);have gz:=Aj hb0 (AP w _ _ _) (by simp<;>omega)
 have hB:Below w.heap.size w v0:=by
  refine Below.trans ?_ (hb0.mono (by simp<;>omega))
  repeat first | exact Below.refl _ _ | refine Below.alloc ?_ (by simp<;>omega) _
 clear hb0
 go_wp2_with (first|(refine DK rfl _ _ rfl _ _ _ _ _ rfl rfl _ _ _ _ (WB v0 _ _) ?_;intro v1 g1 o1;have g2:=(o1.block _ (by omega)).trans (heap_alloc2_new v0 _ _))|(refine DK rfl _ _ rfl _ _ _ _ _ rfl rfl _ _ _ _ g2 ?_;intro v2 g3 o2))
 have hs0:w.heap.size+1+1<v0.heap.size:=Aa gz;have ge2:=(o2.block _ (by omega)).trans ((o1.block _ (by omega)).trans ((Below.heap_alloc _ _ _ (by simp<;>omega)).trans ((Below.heap_alloc _ _ _ (by omega)).trans ge)));have gz2:=(o2.block _ (by omega)).trans ((o1.block _ (by omega)).trans ((Below.heap_alloc _ _ _ (by simp<;>omega)).trans ((Below.heap_alloc _ _ _ (by omega)).trans gz)));have gb2:=(o2.block _ (by omega)).trans g1;have hB2:Below w.heap.size w v2:=Below.trans ((hB.alloc (by omega) _).alloc (by simp<;>omega) _) (Below.trans (Only.below (b:=v0.heap.size) (B:=w.heap.size) o1 (by omega)) (Only.below (b:=v0.heap.size+1) (B:=w.heap.size) o2 (by omega)));clear o1 o2 g1 g2 ge gz hB;generalize v0.heap.size=bs at *
 go_loopw [12] (fun i v=>∃k:Nat,k≤256∧i=.int .i64 k∧∃z0 z1 z2 z3,U64 z0∧U64 z1∧U64 z2∧U64 z3∧(∃c:Int,V4 z0 z1 z2 z3=a ^ Cq e k+c*P255) ∧
   v.heap[bs+1]?=some (.cells #[.int .u64 z0,.int .u64 z1,.int .u64 z2,.int .u64 z3] 142 (0,0)) ∧
   v.heap[bs]?=some (.cells #[.int .u64 (Eh a 0),.int .u64 (Eh a 8),.int .u64 (Eh a 16),.int .u64 (Eh a 24)] 142 (0,0)) ∧
   v.heap[w.heap.size+1]?=some (.cells (BA e) 22 (0,0))∧(∃z:Array Value,v.heap[w.heap.size+1+1]?=some (.cells z 22 (0,0))∧z.size=32)∧Below w.heap.size w v)
  (fun i _=>256-(intOf i).toNat)
 case atStart =>
  exact⟨0,by omega,rfl,1,0,0,0,AbC,Dp,Dp,Dp,⟨0,TL he1⟩,g3,gb2,ge2,⟨_,gz2,rfl⟩,hB2⟩
 case round =>
  clear g3 gb2 ge2 gz2 hB2;obtain⟨k,hk,rfl,z0,z1,z2,z3,hz0,hz1,hz2,hz3,hz,gp,gb,ge,⟨z,gz,sz⟩,hB⟩:=hrel;have HZ:=Hid.mk hz;clear hz
  by_cases hlt:k<256
  ·have hbit:=IG e k hlt he0
   cases hbv:(bits BinOp.and IntKind.u8 (byt e ((255-k)/8)/2 ^ ((255-k)%8)) 1==1)
   all_goals
    rw[hbv] at hbit;have HBIT:=Hid.mk hbit;clear hbit
    go_wp2_with (refine Fa rfl _ rfl _ _ _ _ _ rfl gp ?_)
    refine(J4 _ _ _ _ _ _ _ _ _ hz0 hz1 hz2 hz3 hz0 hz1 hz2 hz3).mono ?_;rintro r v1 ⟨q0,q1,q2,q3,hq0,hq1,hq2,hq3,⟨c,ec⟩,rfl,hb1⟩;have EC:=Hid.mk (Aa9 HZ.out ec);clear ec;have gp1:=Aj hb1 gp (Aa gp);have gb1:=Aj hb1 gb (Aa gb);have ge1:=Aj hb1 ge (Aa ge);have gz1:=Aj hb1 gz (Aa gz);have hB1:=Below.trans hB (hb1.mono hB.size);clear hb1 gp gb ge gz hB
    go_wp2_with (first|(refine DK rfl _ _ rfl _ _ _ _ _ rfl rfl _ _ _ _ gp1 ?_;intro v2 gp2 o2;have gb2:=(o2.block _ (by omega)).trans gb1;have ge2:=(o2.block _ (by omega)).trans ge1;have gz2:=(o2.block _ (by omega)).trans gz1;have hB2:=Below.trans hB1 (Only.below (b:=bs+1) (B:=w.heap.size) o2 (by omega));have ce:=(cell_of_row v2 (w.heap.size+1) ((255-k)/8) _ _ _ ge2).trans (BG e _ (by omega)))|(refine Fa rfl _ rfl _ _ _ _ _ rfl gp2 ?_)|(refine Fa rfl _ rfl _ _ _ _ _ rfl gb2 ?_))
   ·exact⟨⟨k+1,by omega,by go_num,q0,q1,q2,q3,hq0,hq1,hq2,hq3,by rw[HBIT.out];exact WC EC.out,gp2,gb2,ge2,⟨z,gz2,sz⟩,hB2⟩,by simp[intOf];omega⟩
   ·refine(J4 _ _ _ _ _ _ _ _ _ hq0 hq1 hq2 hq3 (AO _ _) (AO _ _) (AO _ _) (AO _ _)).mono ?_
    rintro r v3 ⟨p0,p1,p2,p3,hp0,hp1,hp2,hp3,⟨d,ed⟩,rfl,hb3⟩;rw[Eb ha0 ha1] at ed;have ED:=Hid.mk (Zd EC.out ed);clear ed;have gp3:=Aj hb3 gp2 (Aa gp2);have gb3:=Aj hb3 gb2 (Aa gb2);have ge3:=Aj hb3 ge2 (Aa ge2);have gz3:=Aj hb3 gz2 (Aa gz2);have hB3:=Below.trans hB2 (hb3.mono hB2.size);clear hb3 gp2 gb2 ge2 gz2 hB2 ce gp1 gb1 ge1 gz1 hB1
    go_wp2_with (refine DK rfl _ _ rfl _ _ _ _ _ rfl rfl _ _ _ _ gp3 ?_;intro v4 gp4 o4)
    have gb4:=(o4.block _ (by omega)).trans gb3;have ge4:=(o4.block _ (by omega)).trans ge3;have gz4:=(o4.block _ (by omega)).trans gz3;have hB4:=Below.trans hB3 (Only.below (b:=bs+1) (B:=w.heap.size) o4 (by omega));exact⟨⟨k+1,by omega,by go_num,p0,p1,p2,p3,hp0,hp1,hp2,hp3,by rw[HBIT.out];exact ED.out,gp4,gb4,ge4,⟨z,gz4,sz⟩,hB4⟩,by simp[intOf];omega⟩
  ·have hk2:k=256:=by omega
   subst hk2
   go_wp2_with (refine Fa rfl _ rfl _ _ _ _ _ rfl gp ?_)
   refine(D7 _ _ _ _ _ hz0 hz1 hz2 hz3).mono ?_;rintro r v2 ⟨rfl,hb2⟩;have gz2:=Aj hb2 gz (Aa gz);have hB2:=Below.trans hB (hb2.mono hB.size);clear hb2
   go_wp2_with (refine BD rfl _ _ rfl _ _ rfl rfl _ gz2 sz ?_;intro v3 g3 o3)
   rw[WD HZ.out] at g3;exact bodyPost_ret (v:=.agg (BA (a ^ e.toNat%P255))) (results_cell_row rfl _ _ _ _ _ _ _ rfl g3 underlying22 rfl (by rw[Ah];exact Bk)) rfl
    ⟨rfl,Below.trans hB2 (Only.below (b:=w.heap.size+1+1) (B:=w.heap.size) o3 (by omega))⟩
theorem Lm(x y:Int)(d:Nat)(w:World):∀(is:List Nat),(∀i∈is,i<32)→(Op.eqItems (d+1) 5 1 (BA x) (BA y) is).run prog w=.ok (is.all fun i=>byt x i==byt y i) w
 | [],_=>by simp[Op.eqItems]
 | i::is,h=>by
  have hi:i<32:=h i (by simp);have ih:=Lm x y d w is (fun j hj=>h j (by simp[hj]))
  have e1:(part 5 (BA x) (i*1)).run prog w=.ok (.int .u8 (byt x i)) w:=by
   simp[part,BG,hi,go_sem]
  have e2:(part 5 (BA y) (i*1)).run prog w=.ok (.int .u8 (byt y i)) w:=by
   simp[part,BG,hi,go_sem]
  simp only[Op.eqItems,Sem.run_bind,e1,e2,Result.andThen_ok,run_equalIn_int w d 5 .u8 .u8 _ _ underlying5,List.all_cons];cases hb:(byt x i==byt y i)
  ·simp
  ·simpa using ih
theorem Zf{x y:Int}(hx0:0≤x)(hx1:x<Bj)(hy0:0≤y)(hy1:y<Bj)(h:∀i,i<32→byt x i=byt y i):x=y:=by
 rw[←Eb hx0 hx1,←Eb hy0 hy1];simp only[←Rz]
 simp only[h 0 (by omega),h (0+1) (by omega),h (0+2) (by omega),h (0+3) (by omega),h (0+4) (by omega),h (0+5) (by omega),h (0+6) (by omega),h (0+7) (by omega),
  h 8 (by omega),h (8+1) (by omega),h (8+2) (by omega),h (8+3) (by omega),h (8+4) (by omega),h (8+5) (by omega),h (8+6) (by omega),h (8+7) (by omega),
  h 16 (by omega),h (16+1) (by omega),h (16+2) (by omega),h (16+3) (by omega),h (16+4) (by omega),h (16+5) (by omega),h (16+6) (by omega),h (16+7) (by omega),
  h 24 (by omega),h (24+1) (by omega),h (24+2) (by omega),h (24+3) (by omega),h (24+4) (by omega),h (24+5) (by omega),h (24+6) (by omega),h (24+7) (by omega)]
theorem Zg{x y:Int}(hx0:0≤x)(hx1:x<Bj)(hy0:0≤y)(hy1:y<Bj):((AcA 32).all fun i=>byt x i==byt y i)=(x==y):=by
 by_cases h:x=y
 ·subst h;simp
 ·have h1:(x==y)=false:=by simpa using h
  rw[h1]
  cases hb:(AcA 32).all fun i=>byt x i==byt y i with
  | false=>rfl
  | true =>
   exfalso;apply h;refine Zf hx0 hx1 hy0 hy1 (fun i hi=>?_);have:=List.all_eq_true.1 hb i (List.mem_range.2 hi)
   simpa using this
theorem KC:Tryz.prog.cellsOf 5=1:=by kernel_rfl
theorem UX:(Tryz.prog.info? 5).isSome=true:=by kernel_rfl
theorem OS(x y:Int)(d:Nat)(w:World):(Op.equalIn (d+1+1) 22 (.agg (BA x)) (.agg (BA y))).run prog w=.ok ((AcA 32).all fun i=>byt x i==byt y i) w:=by
 obtain⟨i,hi⟩:=Option.isSome_iff_exists.1 UX;rw[run_equalIn_array w (d+1) (BA x) (BA y) underlying22 hi,KC];exact Lm x y d w _ (fun i hi=>List.mem_range.1 hi)
theorem AbD:Tryz.prog.eqGuardType Tryz.prog.depth 22=false:=by kernel_rfl
theorem Kq(m n:Int)(w:World):(Instr.buildSlice 75 2 #[(0,.agg (BA m)),(1,.agg (BA n))]).run prog w=.ok (.slice (some ⟨w.heap.size,0,none⟩) 2 2) (w.alloc (.cells (BA m++BA n) 22)):=by kernel_rfl
theorem Zh(m n k:Int)(w:World):(Instr.buildSlice 75 3 #[(0,.agg (BA m)),(1,.agg (BA n)),(2,.agg (BA k))]).run prog w=.ok (.slice (some ⟨w.heap.size,0,none⟩) 3 3) (w.alloc (.cells (BA m++BA n++BA k) 22)):=by kernel_rfl
theorem RK{w:World}{b:Nat}{cs:Array Value}{ns:List Int}(hg:w.heap[b]?=some (.cells cs 22 (0,0)))(h:∀k,k<ns.length→∀j v,(BA (ns.getD k 0)).toList[j]?=some v→cs[k*32+j]?=some v):RowsAt w b 0 ns:=
 fun k hk j v hv=>by rw[cell_of_row w b _ _ _ _ hg,Ac9];exact h k hk j v hv
theorem F6{w:World}{b:Nat}{x y:Int}(hg:w.heap[b]?=some (.cells (BA x++BA y) 22 (0,0))):RowsAt w b 0 [x,y]:=
 RK hg (fun k hk j v hv=>by
  have hj:j<32:=by have:=(List.getElem?_eq_some_iff.1 hv).1;rwa [Add0,Ah] at this
  have hk2:k=0∨k=1:=by simp at hk;omega
  rcases hk2 with rfl | rfl
  ·rw[Adg (by rw[Ah];omega)];simpa using hv
  ·rw[Array.getElem?_append_right (by rw[Ah];omega),Ah,show 1*32+j-32=j by omega];simpa using hv)
theorem AbE{w:World}{b:Nat}{x y z:Int}(hg:w.heap[b]?=some (.cells (BA x++BA y++BA z) 22 (0,0))):RowsAt w b 0 [x,y,z]:=
 RK hg (fun k hk j v hv=>by
  have hj:j<32:=by have:=(List.getElem?_eq_some_iff.1 hv).1;rwa [Add0,Ah] at this
  have hk2:k=0∨k=1∨k=2:=by simp at hk;omega
  rcases hk2 with rfl | rfl | rfl
  ·rw[Adg (by rw[Array.size_append,Ah,Ah];omega),Adg (by rw[Ah];omega)];simpa using hv
  ·rw[Adg (by rw[Array.size_append,Ah,Ah];omega),Array.getElem?_append_right (by rw[Ah];omega),Ah,show 1*32+j-32=j by omega];simpa using hv
  ·rw[Array.getElem?_append_right (by rw[Array.size_append,Ah,Ah];omega),Array.size_append,Ah,Ah,show 2*32+j-(32+32)=j by omega];simpa using hv)
def N256(x:Int):Prop:=0≤x∧x<Bj
theorem N256.mod(x:Int):N256 (x%P255):=⟨(El x).1,by have:=(El x).2;unfold P255 at this;unfold Bj;unfold P255;omega⟩
theorem Zi(x y:Int)(b:Nat)(w:World)(hx:N256 x)(hy:N256 y)(hr:RowsAt w b 0 [x,y])(hb:b<w.heap.size):Calls prog 166 #[.slice (some ⟨b,0,none⟩) 2 2] w fun r w'=>r=.returned (.agg (BA ((x+y)%P255)))∧Below w.heap.size w w':=by
 have:=Wp b 0 2 [x,y] w (by simpa using ⟨hx,hy⟩) hr hb (by simp)
 simpa using this
theorem NP(x y:Int)(b:Nat)(w:World)(hx:N256 x)(hy:N256 y)(hr:RowsAt w b 0 [x,y])(hb:b<w.heap.size):Calls prog 103 #[.slice (some ⟨b,0,none⟩) 2 2] w fun r w'=>r=.returned (.agg (BA ((x*y)%P255)))∧Below w.heap.size w w':=by
 have:=OR b 0 2 [x,y] w (by simpa using ⟨hx,hy⟩) hr hb (by simp) (by simp) (by simp)
 simpa [CX] using this
theorem Acx(x y z:Int)(b:Nat)(w:World)(hx:N256 x)(hy:N256 y)(hz:N256 z)(hr:RowsAt w b 0 [x,y,z])(hb:b<w.heap.size):Calls prog 103 #[.slice (some ⟨b,0,none⟩) 3 3] w fun r w'=>r=.returned (.agg (BA ((x*(y*z))%P255)))∧Below w.heap.size w w':=by
 have:=OR b 0 3 [x,y,z] w (by simpa using ⟨hx,hy,hz⟩) hr hb (by simp) (by simp) (by simp)
 simpa [CX] using this
theorem Il{a:Act}{o:Oper}{w:World}(i:Nat)(c:Int)(ho:o.op=.build 22 #[(i,.const (.int .u8 c))])(n:Int)(h:(Instr.build 22 #[(i,.int .u8 c)]).run prog w=.ok (.agg (BA n)) w):(execOp a.eval o).run prog w=.ok (.value (.agg (BA n))) w:=by
 unfold execOp;simp only[ho,AcH,AcG,AcD,Act.eval,Sem.run_bind,h,Result.andThen_ok,Sem.run_pure]
theorem Ae{P:Program}{ops:Array Oper}{Q:Exit→Act→World→Prop}{a:Act}{w:World}{rest:List Oper}{o:Oper}{v:Value}(hw:Region.wanted o (yielded ops a.tmps)=true)(hr:(execOp a.eval o).run P w=.ok (.value v) w)(h:wpList P ops Q rest (a.put o.dst v) w):wpList P ops Q (o::rest) a w:=by
 unfold wpList;rw[if_pos hw];exact .inl (by unfold Oper.wp;rw[hr];exact h)
theorem WE(w:World):(Instr.build 22 #[(0,.int .u8 1)]).run prog w=.ok (.agg (BA 1)) w:=by kernel_rfl
def W255:Int:=57896044618658097711785492504343953926634992332820282019728792003956564819968
theorem Hc(n:Int)(i k:Nat)(h:i<k):byt (n%256 ^ k) i=byt n i:=by
 unfold byt;obtain⟨m,rfl⟩:∃m,k=i+1+m:=⟨k-(i+1),by omega⟩;have hp:(0:Int)<256 ^ i:=Int.pow_pos (by decide);have e:(256:Int) ^ (i+1+m)=256 ^ i*(256*256 ^ m):=by rw[AcO,AcO];simp[AcC]
 rw[e]
 have hq:n%(256 ^ i*(256*256 ^ m))=n-256 ^ i*(256*256 ^ m)*(n/(256 ^ i*(256*256 ^ m))):=by
  have:=Int.emod_add_mul_ediv n (256 ^ i*(256*256 ^ m));omega
 rw[hq,show n-256 ^ i*(256*256 ^ m)*(n/(256 ^ i*(256*256 ^ m)))=n+256 ^ i*(-(256*256 ^ m*(n/(256 ^ i*(256*256 ^ m))))) by
  rw[Int.mul_neg,←AcC,←AcC,AcC (256 ^ i) 256 (256 ^ m)];omega]
 rw[Adp _ _ (by omega)];generalize n/256 ^ i=A;rw[AcC];generalize 256 ^ m*(n/(256 ^ i*(256*256 ^ m)))=B;omega
theorem Ln{cs:Array Value}{n:Int}(hs:cs.size=32)(h:∀i,i<32→cs[i]?=some (.int .u8 (byt n i))):cs=BA n:=by
 apply Adh;intro i
 by_cases hi:i<32
 ·rw[h i hi,BG _ _ hi]
 ·rw[AcI (by omega),AcI (by rw[Ah];omega)]
theorem Zj{n:Int}(i:Nat)(hi:i<31):byt (n%W255) i=byt n i:=by
 have e:n%W255=(n%W255)%256 ^ 31+256 ^ 31*((n%W255)/256 ^ 31):=by have:=Int.emod_add_mul_ediv (n%W255) (256 ^ 31);omega
 rw[←Hc (n%W255) i 31 (by omega),←Hc n i 31 (by omega)];congr 1;unfold W255;omega
theorem AaA{n:Int}:byt (n%W255) 31=byt n 31%128:=by
 unfold byt W255;omega
theorem WF(n:Int):(BA n).setIfInBounds 31 (.int .u8 (byt n 31%128))=BA (n%W255):=by
 apply Ln
 ·simp[Ah]
 ·intro i hi
  rw[Adf]
  by_cases h:31=i
  ·subst h;simp[Ah,AaA]
  ·rw[if_neg h,BG _ _ hi,Zj i (by omega)]
theorem Qw{X b:Int}{k:Nat}(hX0:0≤X)(hX:X<256 ^ k)(hb:BO b)(hk:k<32):(BA X).setIfInBounds k (.int .u8 b)=BA (X+b*256 ^ k):=by
 have hp:∀j:Nat,(0:Int)<256 ^ j:=fun j=>Int.pow_pos (by decide)
 unfold BO at hb;apply Ln
 ·simp[Ah]
 ·intro i hi
  rw[Adf]
  by_cases h:k=i
  ·subst h
   simp only[Ah,hk,if_true];congr 2;unfold byt;rw[Int.add_mul_ediv_right _ _ (by have:=hp k;omega),Int.ediv_eq_zero_of_lt hX0 hX];omega
  ·rw[if_neg h,BG _ _ hi]
   congr 2
   by_cases hlt:i<k
   ·rw[←Hc X i k hlt,←Hc (X+b*256 ^ k) i k hlt,AcL,Adn]
   ·obtain⟨m,rfl⟩:∃m,i=k+(m+1):=⟨i-k-1,by omega⟩
    unfold byt;rw[AcO,←Adl (by have:=hp k;omega),←Adl (by have:=hp k;omega),Int.add_mul_ediv_right _ _ (by have:=hp k;omega),Int.ediv_eq_zero_of_lt hX0 hX,Int.zero_add]
    have:b/256 ^ (m+1)=0:=by
     rw[AcF,AcL,←Adl (by decide),show b/256=0 by omega];simp
    rw[this];simp
def val:List Int→Int
 | []=>0
 | d::ds=>d+65536*val ds
theorem CT(k:Nat):(0:Int)<65536 ^ k:=Int.pow_pos (by decide)
theorem Lo(xs ys:List Int):val (xs++ys)=val xs+65536 ^ xs.length*val ys:=by
 induction xs with
 | nil=>simp[val]
 | cons x xs ih =>
  simp only[List.cons_append,val,ih,Ada,AcF];rw[AcK,AcL (65536 ^ xs.length) 65536,AcC];omega
theorem F7(xs:List Int)(d:Int):val (xs++[d])=val xs+65536 ^ xs.length*d:=by
 rw[Lo];simp[val]
theorem Qx{ds:List Int}(h:∀d∈ds,0≤d):0≤val ds:=by
 induction ds with
 | nil=>simp[val]
 | cons x xs ih =>
  have h1:=h x (by simp);have h2:=ih (fun d hd=>h d (by simp[hd]));simp only[val];omega
theorem AaB{ds:List Int}(h:∀d∈ds,0≤d∧d<65536):val ds<65536 ^ ds.length:=by
 induction ds with
 | nil=>simp[val]
 | cons x xs ih =>
  have h1:=h x (by simp);have h2:=ih (fun d hd=>h d (by simp[hd]));simp only[val,Ada,AcF];omega
theorem TM(n:Nat):val (List.replicate n 0)=0:=by
 induction n with
 | zero=>rfl
 | succ n ih=>simp[List.replicate_succ,val,ih]
theorem Em(ds:List Int)(k:Nat)(h:k<ds.length):val (ds.take (k+1))=val (ds.take k)+65536 ^ k*ds.getD k 0:=by
 rw[List.take_succ_eq_append_getElem h,F7,AcT,Nat.min_eq_left (by omega)];simp[h]
theorem FX(ds:List Int)(k:Nat)(d:Int)(h:k<ds.length):val (ds.set k d)=val ds+65536 ^ k*(d-ds.getD k 0):=by
 induction ds generalizing k with
 | nil=>simp at h
 | cons x xs ih =>
  cases k with
  | zero=>simp[val];omega
  | succ k =>
   have hk:k<xs.length:=by simpa using h
   simp only[Ac5,val,ih k hk,List.getD_cons_succ,AcF];rw[AcK,AcL (65536 ^ k) 65536,AcC];omega
theorem WG{ds:List Int}{k:Nat}(h:k<ds.length):ds.getD k 0∈ds:=by
 simp[h]
theorem Ch(ds:List Int)(k j:Nat)(d:Int)(h:k<ds.length):(ds.set k d).getD j 0=if j=k then d else ds.getD j 0:=by
 by_cases e:j=k
 ·subst e;simp[h]
 ·have:k≠j:=fun h=>e h.symm
  simp[List.getD,e,List.getElem?_set_ne this]
theorem F8(ds:List Int)(k:Nat)(h:k≤ds.length):val ds=val (ds.take k)+65536 ^ k*val (ds.drop k):=by
 conv=>lhs;rw[←List.take_append_drop k ds]
 rw[Lo,AcT,Nat.min_eq_left h]
def Dgs(m:Int)(ds:List Int):Prop:=∀d∈ds,0≤d∧d<m
theorem Dgs.at{m:Int}{ds:List Int}(h:Dgs m ds)(hm:0<m)(k:Nat):0≤ds.getD k 0∧ds.getD k 0<m:=by
 by_cases hk:k<ds.length
 ·exact h _ (WG hk)
 ·simp[List.getD,AcV (Nat.le_of_not_lt hk),hm]
theorem Dgs.of{m:Int}{ds:List Int}(h:∀k,k<ds.length→0≤ds.getD k 0∧ds.getD k 0<m):Dgs m ds:=by
 intro d hd;obtain⟨k,hk,rfl⟩:=List.getElem_of_mem hd
 simpa [hk] using h k hk
theorem Dgs.snoc{m:Int}{ds:List Int}(h:Dgs m ds){d:Int}(h0:0≤d)(h1:d<m):Dgs m (ds++[d]):=by
 intro x hx
 rcases List.mem_append.1 hx with hx | hx
 ·exact h x hx
 ·simp at hx;subst hx;exact⟨h0,h1⟩
theorem Dgs.mono{m n:Int}{ds:List Int}(h:Dgs m ds)(hmn:m≤n):Dgs n ds:=fun d hd=>⟨(h d hd).1,by have:=(h d hd).2;omega⟩
theorem Dgs.take{m:Int}{ds:List Int}(h:Dgs m ds)(k:Nat):Dgs m (ds.take k):=fun d hd=>h d (List.mem_of_mem_take hd)
theorem Dgs.drop{m:Int}{ds:List Int}(h:Dgs m ds)(k:Nat):Dgs m (ds.drop k):=fun d hd=>h d (List.mem_of_mem_drop hd)
theorem Dgs.nonneg{m:Int}{ds:List Int}(h:Dgs m ds):0≤val ds:=Qx (fun d hd=>(h d hd).1)
theorem Dgs.lt{ds:List Int}(h:Dgs 65536 ds):val ds<65536 ^ ds.length:=AaB h
theorem FY{a b:Nat}(h:a≤b):(65536:Int) ^ a≤65536 ^ b:=by
 obtain⟨c,rfl⟩:=Nat.exists_eq_add_of_le h;have h1:=CT c;have h2:=CT a;rw[AcO]
 calc (65536:Int) ^ a=65536 ^ a*1:=by rw[Int.mul_one]
  _≤65536 ^ a*65536 ^ c:=AcX (by omega) (AcR h2)
theorem Lp{a b:Nat}(h:(65536:Int) ^ a<65536 ^ b):a<b:=by
 by_cases hb:b≤a
 ·have:=FY hb;omega
 ·omega
structure Car (ds:List Int) (k:Nat) (c:Int) (es:List Int):Prop where
 len:es.length=k
 dgs:Dgs 65536 es
 c0:0≤c
 c1:c<4398046511104
 num:val es+65536 ^ k*c=val (ds.take k)
 top:k≤ds.length∨65536 ^ (k-1)≤val ds
 k44:k≤44
theorem Car.start(ds:List Int):Car ds 0 0 []:=⟨rfl,fun d hd=>by simp at hd,by omega,by omega,by simp[val],.inl (Nat.zero_le _),by omega⟩
theorem Car.step{ds:List Int}{k:Nat}{c:Int}{es:List Int}(h:Car ds k c es)(hd:Dgs 4398046511104 ds)(hl:ds.length≤44)(hk:k<ds.length):Car ds (k+1) ((c+ds.getD k 0)/65536) (es++[(c+ds.getD k 0)%65536]):=by
 have hx:=hd.at (by omega) k;have h0:=h.c0;have h1:=h.c1;refine⟨by simp[h.len],h.dgs.snoc (by omega) (by omega),by omega,by omega,?_,.inl hk,by omega⟩;rw[F7,Em ds k hk,←h.num,h.len,AcF];have e:c+ds.getD k 0=(c+ds.getD k 0)%65536+65536*((c+ds.getD k 0)/65536):=by omega
 rw[Int.add_assoc,Int.add_assoc,AcC,←AcK,←AcK,←e]
theorem Car.over{ds:List Int}{k:Nat}{c:Int}{es:List Int}(h:Car ds k c es)(hv:val ds<65536 ^ 44)(hk:ds.length≤k)(hc:0<c):Car ds (k+1) (c/65536) (es++[c%65536]):=by
 have h0:=h.c0;have h1:=h.c1;have hval:=h.num;rw[Adc hk] at hval;have hp:=CT k;have hes:=h.dgs.nonneg
 have hle:(65536:Int) ^ k≤val ds:=by
  have:(65536:Int) ^ k*1≤65536 ^ k*c:=AcX (by omega) (AcR hp);omega
 have hk44:k<44:=Lp (Int.lt_of_le_of_lt hle hv);refine⟨by simp[h.len],h.dgs.snoc (by omega) (by omega),by omega,by omega,?_,.inr (by simpa using hle),by omega⟩;rw[F7,Adc (by omega),←hval,h.len,AcF];have e:c=c%65536+65536*(c/65536):=by omega
 rw[Int.add_assoc,AcC,←AcK,←e]
structure Cared (ds es:List Int):Prop where
 dgs:Dgs 65536 es
 num:val es=val ds
 l16:16≤es.length
 l44:es.length≤44
 top:es.length≤max 16 ds.length∨65536 ^ (es.length-1)≤val ds
structure Pad (ds es:List Int):Prop where
 dgs:Dgs 65536 es
 num:val es=val ds
 l44:es.length≤44
 top:es.length≤max 16 ds.length∨65536 ^ (es.length-1)≤val ds
theorem Car.done{ds:List Int}{k:Nat}{es:List Int}(h:Car ds k 0 es)(hk:ds.length≤k):Pad ds es:=by
 have hval:=h.num;rw[Adc hk] at hval;refine⟨h.dgs,by simpa using hval,by rw[h.len];exact h.k44,?_⟩;rw[h.len]
 rcases h.top with h | h
 ·exact .inl (by omega)
 ·exact .inr h
theorem Pad.zero{ds es:List Int}(h:Pad ds es)(hl:es.length<16):Pad ds (es++[0]):=
 ⟨h.dgs.snoc (by omega) (by omega),by rw[F7,h.num];omega,by simp;omega,.inl (by simp;omega)⟩
theorem Pad.done{ds es:List Int}(h:Pad ds es)(hl:16≤es.length):Cared ds es:=⟨h.dgs,h.num,hl,h.l44,h.top⟩
structure Fold (X:List Int) (j m:Nat) (ys:List Int):Prop where
 l16:16≤ys.length
 lj:j≤ys.length
 lm:ys.length≤max 16 m
 num:val ys=val (X.take 16)+38*val ((X.drop 16).take j)
 lo:∀k,0≤ys.getD k 0∧ys.getD k 0<2621440
 hi:∀k,j≤k→ys.getD k 0<65536
theorem Fold.start{X:List Int}(hd:Dgs 65536 X)(hl:16≤X.length):Fold X 0 0 (X.take 16):=
 ⟨by simp;omega,Nat.zero_le _,by simp;omega,by simp[val],fun k=>((hd.take 16).mono (by omega:(65536:Int)≤2621440)).at (by omega) k,fun k _=>((hd.take 16).at (by omega) k).2⟩
theorem Fold.wide{X:List Int}{j:Nat}{ys:List Int}(h:Fold X j j ys):Fold X j (j+1) ys:=⟨h.l16,h.lj,by have:=h.lm;omega,h.num,h.lo,h.hi⟩
theorem Lq(ys:List Int)(k:Nat):(ys++[0]).getD k 0=ys.getD k 0:=by
 simp only[List.getD,List.getElem?_append]
 by_cases h:k<ys.length
 ·simp[h]
 ·rw[if_neg h,AcV (Nat.le_of_not_lt h)]
  cases e:k-ys.length<;>simp
theorem Fold.zero{X:List Int}{j:Nat}{ys:List Int}(h:Fold X j (j+1) ys)(hl:ys.length≤j):Fold X j (j+1) (ys++[0]):=by
 have h1:=h.lj;have h2:=h.l16;refine⟨by simp;omega,by simp;omega,by simp;omega,by rw[F7,h.num];omega,fun k=>by rw[Lq];exact h.lo k,fun k hk=>by rw[Lq];exact h.hi k hk⟩
theorem Fold.step{X:List Int}{j:Nat}{ys:List Int}(h:Fold X j (j+1) ys)(hd:Dgs 65536 X)(hl:j<ys.length)(hj:j+16<X.length):Fold X (j+1) (j+1) (ys.set j (ys.getD j 0+38*X.getD (16+j) 0)):=by
 have hx:=hd.at (by omega) (16+j);have h0:=h.lo j;have h1:=h.hi j (Ac4 _);have h2:=h.l16;have h3:=h.lm;have eX:(X.drop 16).getD j 0=X.getD (16+j) 0:=by simp[List.getD]
 refine⟨by simp;omega,by simp;omega,by simp;omega,?_,fun k=>?_,fun k hk=>?_⟩
 ·rw[FX _ _ _ hl,h.num,Em _ j (by simp;omega),eX,AcK 38,Int.add_comm (ys.getD j 0),Int.add_sub_cancel,←AcC 38,AcL 38 (65536 ^ j),AcC,Int.add_assoc]
 ·rw[Ch _ _ _ _ hl]
  split
  ·omega
  ·exact h.lo k
 ·rw[Ch _ _ _ _ hl,if_neg (by omega)]
  exact h.hi k (by omega)
theorem AaC:(65536:Int) ^ 16=38+2*P255:=by decide +kernel
structure Rst (n:Int) (X:List Int):Prop where
 dgs:Dgs 65536 X
 l16:16≤X.length
 l44:X.length≤44
 num:val X%P255=n%P255
theorem Rst.start{ds es:List Int}(h:Cared ds es):Rst (val ds) es:=⟨h.dgs,h.l16,h.l44,by rw[h.num]⟩
theorem Rst.lt44{n:Int}{X:List Int}(h:Rst n X):val X<65536 ^ 44:=Int.lt_of_lt_of_le h.dgs.lt (FY h.l44)
theorem Fold.val_end{X ys:List Int}(h:Fold X (X.length-16) (X.length-16) ys)(hl:16≤X.length):val X=val ys+2*P255*val (X.drop 16):=by
 rw[F8 X 16 hl,h.num,Adc (l:=X.drop 16) (i:=X.length-16) (by simp),AaC,Int.add_mul];omega
theorem Rst.fold_pre{n:Int}{X ys:List Int}(h:Rst n X)(f:Fold X (X.length-16) (X.length-16) ys):Dgs 4398046511104 ys∧ys.length≤44∧val ys<65536 ^ 44:=by
 have h1:=f.lm;have h2:=h.l44;have h3:=f.val_end h.l16;have h4:=(h.dgs.drop 16).nonneg;have h5:=h.lt44;have hP:(0:Int)≤2*P255:=by decide +kernel
 have h6:=Int.mul_nonneg hP h4;exact⟨Dgs.of fun k _=>⟨(f.lo k).1,by have:=(f.lo k).2;omega⟩,by omega,by omega⟩
theorem Rst.fold{n:Int}{X ys es:List Int}(h:Rst n X)(hl:16<X.length)(f:Fold X (X.length-16) (X.length-16) ys)(c:Cared ys es):Rst n es∧(val es).toNat*100+es.length<(val X).toNat*100+X.length:=by
 have h3:=f.val_end h.l16;have h4:=(h.dgs.drop 16).nonneg;have h5:=h.l44;have h6:=c.l44;refine⟨⟨c.dgs,c.l16,c.l44,?_⟩,?_⟩
 ·rw[←h.num,c.num,h3,AcL 2 P255,AcC,Adn]
 ·by_cases hz:val (X.drop 16)=0
  ·rw[hz,Int.mul_zero,Int.add_zero] at h3
   have ht:val X<65536 ^ 16:=by
    rw[F8 X 16 h.l16,hz,Int.mul_zero,Int.add_zero];have:=(h.dgs.take 16).lt
    rwa [AcT,Nat.min_eq_left h.l16] at this
   have hs:es.length<X.length:=by
    rcases c.top with t | t
    ·have:=f.lm;omega
    ·have:=Lp (Int.lt_of_le_of_lt t (by rw[←h3];exact ht));omega
   rw[c.num,←h3];omega
  ·have h7:2*P255*1≤2*P255*val (X.drop 16):=AcX (by omega) (by decide +kernel)
   have h8:(1:Int)≤2*P255*1:=by decide +kernel
   have h9:=c.dgs.nonneg;have h10:val es<val X:=by rw[c.num];omega
   omega
def fold15(X:List Int):List Int:=(X.set 0 (X.getD 0 0+19*(X.getD 15 0/32768))).set 15 (X.getD 15 0%32768)
theorem p15:(65536:Int) ^ 15*32768=P255+19:=by decide +kernel
theorem Lr(X:List Int):(fold15 X).length=X.length:=by simp[fold15]
theorem Ls{X:List Int}(hd:Dgs 65536 X)(hl:X.length=16)(h:32768≤X.getD 15 0):val (fold15 X)=val X-P255:=by
 have h1:=hd.at (by omega) 15;have hq:X.getD 15 0/32768=1:=by omega
 have hr:X.getD 15 0%32768=X.getD 15 0-32768:=by omega
 unfold fold15;rw[FX _ _ _ (by simp;omega),FX _ _ _ (by omega),Ch _ _ _ _ (by omega),if_neg (by omega),hq,hr];have e:X.getD 15 0-32768-X.getD 15 0=-32768:=by omega
 rw[e,Int.mul_neg,p15];omega
theorem Qy{n:Int}{X:List Int}(r:Rst n X)(hl:X.length=16)(h:32768≤X.getD 15 0):Dgs 4398046511104 (fold15 X)∧val (fold15 X)<65536 ^ 44:=by
 have h0:=r.dgs.at (by omega) 0;have h1:=r.dgs.at (by omega) 15;have h2:=Ls r.dgs hl h;have h3:=r.lt44;have hP:(0:Int)≤P255:=by decide +kernel
 refine⟨Dgs.of fun k _=>?_,by omega⟩;unfold fold15;rw[Ch _ _ _ _ (by simp;omega),Ch _ _ _ _ (by omega)];have h4:=r.dgs.at (by omega) k
 split
 ·omega
 ·split
  ·omega
  ·omega
theorem Rst.fold15{n:Int}{X es:List Int}(r:Rst n X)(hl:X.length=16)(h:32768≤X.getD 15 0)(c:Cared (fold15 X) es):Rst n es∧es.length=16∧(val es).toNat<(val X).toNat:=by
 have h2:=Ls r.dgs hl h;have hP:(0:Int)<P255:=by decide +kernel
 have h3:=r.dgs.lt;have h9:=c.dgs.nonneg;have hc:=c.num;have h16:=c.l16;rw[hl] at h3;refine⟨⟨c.dgs,c.l16,c.l44,?_⟩,?_,by omega⟩
 ·rw[c.num,h2,←r.num,Int.sub_emod_right]
 ·rcases c.top with t | t
  ·rw[Lr] at t;omega
  ·have:=Lp (Int.lt_of_le_of_lt t (by omega:val (Proofs.YthghcjepdhkfdaaGreatDoor.Fld.fold15 X)<65536 ^ 16));omega
theorem map_set{f g:Nat→Int}{n i:Nat}(_hi:i<n)(h:∀j,j<n→j≠i→f j=g j):((AcA n).map f).set i (g i)=(AcA n).map g:=by
 apply List.ext_getElem
 ·simp
 ·intro j h1 h2
  simp at h1 h2;rw[List.getElem_set]
  split
  ·rename_i e;subst e;simp
  ·rename_i e;simp;exact h j h2 (fun h=>e h.symm)
theorem GE(f:Nat→Int){n i:Nat}(hi:i<n):((AcA n).map f).getD i 0=f i:=by
 simp[List.getD,hi]
theorem OT{X:List Int}{n:Nat}(hl:X.length=n):(AcA n).map (fun j=>X.getD j 0)=X:=by
 subst hl;apply List.ext_getElem
 ·simp
 ·intro j h1 h2;simp[List.getD,h2]
theorem NQ{X:List Int}(h:X.length=16):∃d0 d1 d2 d3 d4 d5 d6 d7 d8 d9 d10 d11 d12 d13 d14 d15,X=[d0,d1,d2,d3,d4,d5,d6,d7,d8,d9,d10,d11,d12,d13,d14,d15]:=by
 match X,h with
 | [d0,d1,d2,d3,d4,d5,d6,d7,d8,d9,d10,d11,d12,d13,d14,d15],_=>exact⟨d0,d1,d2,d3,d4,d5,d6,d7,d8,d9,d10,d11,d12,d13,d14,d15,rfl⟩
theorem OU{X:List Int}(hd:Dgs 65536 X)(hl:X.length=16)(h15:X.getD 15 0<32768)(j:Nat)(hj1:1≤j)(hj:j<15)(hx:X.getD j 0≠65535):val X<P255:=by
 -- what lies above j is at most as great as p's
 have hs:=F8 X (j+1) (by omega);have ht:=Em X j (by omega);have hlo:=(hd.take j).lt;rw[AcT,hl,Nat.min_eq_left (by omega)] at hlo;have hjb:=hd.at (by omega) j
 have hup:val (X.drop (j+1))+1≤65536 ^ (14-j)*32768:=by
  have h1:=F8 (X.drop (j+1)) (14-j) (by simp;omega);have h2:=((hd.drop (j+1)).take (14-j)).lt;rw[AcT,List.length_drop,hl,Nat.min_eq_left (by omega)] at h2;rw[List.drop_drop,show j+1+(14-j)=15 by omega] at h1
  have h3:X.drop 15=[X.getD 15 0]:=by
   apply List.ext_getElem
   ·simp;omega
   ·intro i a b
    simp at a b;have:i=0:=by omega
    subst this;simp[List.getD,hl]
  rw[h3] at h1;simp only[val,Int.mul_zero,Int.add_zero] at h1;have h4:(65536:Int) ^ (14-j)*X.getD 15 0≤65536 ^ (14-j)*32767:=AcX (by omega) (AcR (CT _));omega
 have hp1:=CT (j+1);have hm:(65536:Int) ^ (j+1)*(val (X.drop (j+1))+1)≤65536 ^ (j+1)*(65536 ^ (14-j)*32768):=AcX hup (AcR hp1);rw[←AcC,←AcO,show j+1+(14-j)=15 by omega,p15,AcK,Int.mul_one] at hm;have hpj:=CT j;have hm2:(65536:Int) ^ j*X.getD j 0≤65536 ^ j*65534:=AcX (by omega) (AcR hpj);have e1:(65536:Int) ^ (j+1)=65536 ^ j*65536:=AcF _ _;have hj1':(65536:Int) ^ 1≤65536 ^ j:=FY hj1;omega
theorem J5{X:List Int}(hl:X.length=16)(h:∀j,1≤j→j<15→X.getD j 0=65535):val X=X.getD 0 0-65536+65536 ^ 15*(1+X.getD 15 0):=by
 obtain⟨d0,d1,d2,d3,d4,d5,d6,d7,d8,d9,d10,d11,d12,d13,d14,d15,rfl⟩:=NQ hl;have h1:=h 1 (by omega) (by omega);have h2:=h 2 (by omega) (by omega);have h3:=h 3 (by omega) (by omega);have h4:=h 4 (by omega) (by omega);have h5:=h 5 (by omega) (by omega);have h6:=h 6 (by omega) (by omega);have h7:=h 7 (by omega) (by omega);have h8:=h 8 (by omega) (by omega);have h9:=h 9 (by omega) (by omega);have h10:=h 10 (by omega) (by omega);have h11:=h 11 (by omega) (by omega);have h12:=h 12 (by omega) (by omega);have h13:=h 13 (by omega) (by omega);have h14:=h 14 (by omega) (by omega);simp[List.getD] at h1 h2 h3 h4 h5 h6 h7 h8 h9 h10 h11 h12 h13 h14;subst h1 h2 h3 h4 h5 h6 h7 h8 h9 h10 h11 h12 h13 h14;simp only[val,List.getD,List.getElem?_cons_zero,List.getElem?_cons_succ,Option.getD_some,AcY];omega
theorem MM{X:List Int}(hd:Dgs 65536 X)(hl:X.length=16)(h15:X.getD 15 0<32768)(h:∀j,1≤j→j<15→X.getD j 0=65535):(X.getD 15 0=32767∧65517≤X.getD 0 0)↔P255≤val X:=by
 have e:=J5 hl h;have h0:=hd.at (by omega) 0;have h1:=hd.at (by omega) 15;simp only[AcY] at e;unfold P255;omega
def CY(X:List Int)(i:Nat):List Int:=(AcA 16).map fun j=>if j<i then (if j=0 then X.getD 0 0-65517 else 0) else X.getD j 0
theorem J6(X:List Int)(i:Nat):(CY X i).length=16:=by simp[CY]
theorem Qz{X:List Int}(hl:X.length=16):CY X 0=X:=by
 unfold CY;simp only[Nat.not_lt_zero,if_false];exact OT hl
theorem TN(X:List Int){i:Nat}(hi:i<16):(CY X i).getD i 0=X.getD i 0:=by
 unfold CY;rw[GE _ hi];simp
theorem TO(X:List Int){i:Nat}(hi:i<16):(CY X i).set i (if i=0 then X.getD 0 0-65517 else 0)=CY X (i+1):=by
 unfold CY;have:=@map_set (fun j=>if j<i then (if j=0 then X.getD 0 0-65517 else 0) else X.getD j 0) (fun j=>if j<i+1 then (if j=0 then X.getD 0 0-65517 else 0) else X.getD j 0) 16 i hi
  (fun j _ hne=>by by_cases h:j<i<;>simp[h,show j<i+1↔j<i by omega])
 simpa using this
theorem TQ(X:List Int):val (CY X 16)=X.getD 0 0-65517:=by
 simp[CY,AcA,List.range.loop,val]
theorem TR{X:List Int}(hd:Dgs 65536 X)(hl:X.length=16)(h15:X.getD 15 0<32768)(h:P255≤val X):val (CY X 16)=val X-P255∧Dgs 65536 (CY X 16):=by
 have ha:∀j,1≤j→j<15→X.getD j 0=65535:=fun j h1 h2=>by
  by_cases e:X.getD j 0=65535
  ·exact e
  ·have:=OU hd hl h15 j h1 h2 e;omega
 have hy:=(MM hd hl h15 ha).2 h;have e:=J5 hl ha;have h0:=hd.at (by omega) 0;refine⟨?_,Dgs.of fun k hk=>?_⟩
 ·rw[TQ,e,hy.1];simp only[AcY];unfold P255;omega
 ·rw[J6] at hk
  unfold CY;rw[GE _ hk,if_pos hk]
  split<;>omega
theorem Zk{X:List Int}(hd:Dgs 65536 X)(hl:X.length=16)(h15:X.getD 15 0<32768):val X<P255+19:=by
 have h1:=F8 X 15 (by omega);have h2:=(hd.take 15).lt;rw[AcT,hl,Nat.min_eq_left (by omega)] at h2
 have h3:X.drop 15=[X.getD 15 0]:=by
  apply List.ext_getElem
  ·simp;omega
  ·intro i a b
   simp at a b;have:i=0:=by omega
   subst this;simp[List.getD,hl]
 rw[h3] at h1;simp only[val,Int.mul_zero,Int.add_zero] at h1;simp only[AcY] at h1 h2;unfold P255;omega
theorem WI(i:Nat):(256:Int) ^ (2*i)=65536 ^ i:=by rw[Int.pow_mul];rfl
theorem Lt{X:List Int}(hd:Dgs 65536 X){i:Nat}(hl:X.length=16)(hi:i<16):((BA (val (X.take i))).setIfInBounds (2*i) (.int .u8 (X.getD i 0%256))).setIfInBounds (2*i+1) (.int .u8 (X.getD i 0/256))=BA (val (X.take (i+1))):=by
 have h1:=(hd.take i).lt;rw[AcT,hl,Nat.min_eq_left (by omega)] at h1;have h0:=(hd.take i).nonneg;have hx:=hd.at (by omega) i;have hp:=CT i;have hpx:0≤X.getD i 0%256*65536 ^ i:=Int.mul_nonneg (by omega) (AcR hp);have hpx2:X.getD i 0%256*65536 ^ i≤255*65536 ^ i:=Adq (by omega) (AcR hp);rw[Qw h0 (by rw[WI];exact h1) (by unfold BO;omega) (by omega),WI];rw[Qw (by omega) (by rw[AcF,WI];omega) (by unfold BO;omega) (by omega)];congr 1;rw[Em X i (by omega),AcF,WI,Int.add_assoc];congr 1;have e:X.getD i 0=X.getD i 0%256+X.getD i 0/256*256:=by omega
 conv=>rhs;rw[e]
 rw[AcK,AcL (65536 ^ i) (X.getD i 0%256),Int.mul_left_comm (65536 ^ i) (X.getD i 0/256) 256]
def LD(n:Int)(i:Nat):List Int:=(AcA 16).map fun j=>if j<i then n/65536 ^ j%65536 else 0
theorem Ds(n:Int)(i:Nat):(LD n i).length=16:=by simp[LD]
theorem AaD(n:Int){i:Nat}(hi:i<16):(LD n i).set i (byt n (2*i)+256*byt n (2*i+1))=LD n (i+1):=by
 have e:byt n (2*i)+256*byt n (2*i+1)=n/65536 ^ i%65536:=by
  unfold byt;rw[AcF,WI,←Adl (AcR (CT i))];omega
 rw[e];unfold LD;have:=@map_set (fun j=>if j<i then n/65536 ^ j%65536 else 0) (fun j=>if j<i+1 then n/65536 ^ j%65536 else 0) 16 i hi
  (fun j _ hne=>by by_cases h:j<i<;>simp[h,show j<i+1↔j<i by omega])
 simpa using this
theorem Fu(n:Int)(i:Nat):Dgs 65536 (LD n i):=Dgs.of fun k hk=>by
 rw[Ds] at hk;unfold LD;rw[GE _ hk]
 split<;>omega
theorem TS(n:Int)(k:Nat):val ((AcA k).map fun j=>n/65536 ^ j%65536)=n%65536 ^ k:=by
 induction k with
 | zero=>simp[val,Int.emod_one]
 | succ k ih =>
  rw[List.range_succ,List.map_append,AcG,AcD,F7,ih,List.length_map,List.length_range,AcF];rw[Int.emod_def n (65536 ^ k),Int.emod_def n (65536 ^ k*65536),←Adl (AcR (CT k)),Int.emod_def (n/65536 ^ k) 65536,Int.mul_sub,←AcC (65536 ^ k) 65536];omega
theorem Im{n:Int}(h0:0≤n)(h1:n<Bj):val (LD n 16)=n:=by
 have e:LD n 16=(AcA 16).map fun j=>n/65536 ^ j%65536:=by
  unfold LD;apply List.map_congr_left;intro j hj;rw[if_pos (List.mem_range.1 hj)]
 rw[e,TS];exact Adk h0 (by simp only[AcY];unfold Bj at h1;exact h1)
structure Sum (X Y:List Int) (i:Nat) (ds:List Int):Prop where
 len:ds.length=16
 num:val ds=val X+val (Y.take i)
 lo:∀k,0≤ds.getD k 0∧ds.getD k 0<131072
 hi:∀k,i≤k→ds.getD k 0<65536
theorem Sum.start{X Y:List Int}(hX:Dgs 65536 X)(hl:X.length=16):Sum X Y 0 X:=
 ⟨hl,by simp[val],fun k=>⟨(hX.at (by omega) k).1,by have:=(hX.at (by omega) k).2;omega⟩,fun k _=>(hX.at (by omega) k).2⟩
theorem Sum.step{X Y:List Int}{i:Nat}{ds:List Int}(h:Sum X Y i ds)(hY:Dgs 65536 Y)(hl:Y.length=16)(hi:i<16):Sum X Y (i+1) (ds.set i (ds.getD i 0+Y.getD i 0)):=by
 have hn:=h.len;have hy:=hY.at (by omega) i;have h0:=h.lo i;have h1:=h.hi i (Ac4 _);refine⟨by simp[hn],?_,fun k=>?_,fun k hk=>?_⟩
 ·rw[FX _ _ _ (by omega),h.num,Em Y i (by omega),Int.add_comm (ds.getD i 0),Int.add_sub_cancel];omega
 ·rw[Ch _ _ _ _ (by omega)]
  split
  ·omega
  ·exact h.lo k
 ·rw[Ch _ _ _ _ (by omega),if_neg (by omega)]
  exact h.hi k (by omega)
theorem Sum.done{X Y ds:List Int}(h:Sum X Y 16 ds)(hY:Y.length=16):val ds=val X+val Y∧Dgs 4398046511104 ds:=by
 refine⟨by rw[h.num,Adc (by omega)],Dgs.of fun k _=>⟨(h.lo k).1,by have:=(h.lo k).2;omega⟩⟩
structure Prd (X Y:List Int) (i k:Nat) (ds:List Int):Prop where
 len:ds.length=31
 num:val ds=val (X.take i)*val Y+65536 ^ i*X.getD i 0*val (Y.take k)
 lo:∀m,0≤ds.getD m 0∧ds.getD m 0≤4294967296*(i+1:Nat)
 hi:∀m,i+k≤m→ds.getD m 0≤4294967296*(i:Nat)
theorem Lu(n m:Nat):(List.replicate n (0:Int)).getD m 0=0:=by
 by_cases h:m<n<;>simp[List.getD,h]
theorem Prd.start(X Y:List Int):Prd X Y 0 0 (List.replicate 31 0):=
 ⟨List.length_replicate,by rw[TM];simp[val],fun m=>by rw[Lu];omega,fun m _=>by rw[Lu];omega⟩
theorem OV{a b:Int}(ha:0≤a∧a<65536)(hb:0≤b∧b<65536):0≤a*b∧a*b<4294967296:=by
 refine⟨Int.mul_nonneg ha.1 hb.1,?_⟩;have h1:a*b≤65535*b:=Adq (by omega) hb.1;omega
theorem Prd.step{X Y:List Int}{i k:Nat}{ds:List Int}(h:Prd X Y i k ds)(hX:Dgs 65536 X)(hY:Dgs 65536 Y)(hl:Y.length=16)(hi:i<16)(hk:k<16):Prd X Y i (k+1) (ds.set (i+k) (ds.getD (i+k) 0+X.getD i 0*Y.getD k 0)):=by
 have hn:=h.len;have hm:=OV (hX.at (by omega) i) (hY.at (by omega) k);have h0:=h.lo (i+k);have h1:=h.hi (i+k) (Ac4 _);refine⟨by simp[hn],?_,fun m=>?_,fun m hm=>?_⟩
 ·rw[FX _ _ _ (by omega),h.num,Em Y k (by omega),Int.add_comm (ds.getD (i+k) 0),Int.add_sub_cancel,AcK,AcO]
  have e:(65536:Int) ^ i*65536 ^ k*(X.getD i 0*Y.getD k 0)=65536 ^ i*X.getD i 0*(65536 ^ k*Y.getD k 0):=by
   rw[AcC,AcC,Int.mul_left_comm (65536 ^ k)]
  rw[e];omega
 ·rw[Ch _ _ _ _ (by omega)]
  split
  ·omega
  ·exact h.lo m
 ·rw[Ch _ _ _ _ (by omega),if_neg (by omega)]
  exact h.hi m (by omega)
theorem Prd.next{X Y:List Int}{i:Nat}{ds:List Int}(h:Prd X Y i 16 ds)(hl:Y.length=16)(hX:X.length=16)(hi:i<16):Prd X Y (i+1) 0 ds:=by
 refine⟨h.len,?_,fun m=>⟨(h.lo m).1,by have:=(h.lo m).2;omega⟩,fun m _=>(h.lo m).2⟩;rw[h.num,Adc (l:=Y) (by omega),Em X i (by omega),Int.add_mul];simp[val]
theorem Prd.done{X Y ds:List Int}(h:Prd X Y 16 0 ds)(hX:X.length=16):val ds=val X*val Y∧Dgs 4398046511104 ds:=by
 refine⟨by rw[h.num,Adc (by omega)];simp[val],Dgs.of fun k _=>⟨(h.lo k).1,by have:=(h.lo k).2;omega⟩⟩
theorem WJ{ds:List Int}(h:Dgs 4398046511104 ds):val ds≤4398046511103*65536 ^ ds.length-4398046511103:=by
 induction ds with
 | nil=>simp[val]
 | cons x xs ih =>
  have h1:=h x (by simp);have h2:=ih (fun d hd=>h d (by simp[hd]));simp only[val,Ada,AcF];omega
theorem AaE{ds:List Int}(h:Dgs 4398046511104 ds)(hl:ds.length≤40):val ds<65536 ^ 44:=by
 have h1:=WJ h;have h2:=FY hl;have e:(65536:Int) ^ 44=65536 ^ 40*65536 ^ 4:=by rw[←AcO]
 rw[e];have h3:=CT 40;simp only[AcY] at *;omega
def pd(i:Nat):Int:=if i=15 then 32767 else if i=0 then 65517 else 65535
def Dif(X Y:List Int)(i:Nat):List Int:=(AcA 16).map fun j=>if j<i then X.getD j 0+pd j-Y.getD j 0 else X.getD j 0
theorem RL(X Y:List Int)(i:Nat):(Dif X Y i).length=16:=by simp[Dif]
theorem WK{X Y:List Int}(hl:X.length=16):Dif X Y 0=X:=by
 unfold Dif;simp only[Nat.not_lt_zero,if_false];exact OT hl
theorem Zl(X Y:List Int){i:Nat}(hi:i<16):(Dif X Y i).getD i 0=X.getD i 0:=by
 unfold Dif;rw[GE _ hi];simp
theorem Zm(X Y:List Int){i:Nat}(hi:i<16):(Dif X Y i).set i (X.getD i 0+pd i-Y.getD i 0)=Dif X Y (i+1):=by
 unfold Dif;have:=@map_set (fun j=>if j<i then X.getD j 0+pd j-Y.getD j 0 else X.getD j 0) (fun j=>if j<i+1 then X.getD j 0+pd j-Y.getD j 0 else X.getD j 0) 16 i hi
  (fun j _ hne=>by by_cases h:j<i<;>simp[h,show j<i+1↔j<i by omega])
 simpa using this
theorem Zn{X Y:List Int}(hX:X.length=16)(hY:Y.length=16):val (Dif X Y 16)=val X+P255-val Y:=by
 obtain⟨a0,a1,a2,a3,a4,a5,a6,a7,a8,a9,a10,a11,a12,a13,a14,a15,rfl⟩:=NQ hX;obtain⟨b0,b1,b2,b3,b4,b5,b6,b7,b8,b9,b10,b11,b12,b13,b14,b15,rfl⟩:=NQ hY;simp[Dif,AcA,List.range.loop,val,pd];unfold P255;omega
theorem RM{X Y:List Int}{j:Nat}(hj:j<16):(Dif X Y 16).getD j 0=X.getD j 0+pd j-Y.getD j 0:=by
 unfold Dif;rw[GE _ hj,if_pos hj]
structure Bor (X Y:List Int) (i:Nat) (t:Int) (ds:List Int):Prop where
 len:ds.length=16
 num:val ds=val X+P255-val Y
 lo:∀k,k<i→0≤ds.getD k 0∧ds.getD k 0<131072
 at':i<16→ds.getD i 0=X.getD i 0+pd i-Y.getD i 0-t
 hi:∀k,i<k→k<16→ds.getD k 0=X.getD k 0+pd k-Y.getD k 0
 t01:t=0∨(t=1∧0<i∧65517<Y.getD 0 0∧∀k,1≤k→k<i→Y.getD k 0=65535)
theorem Bor.start{X Y:List Int}(hX:X.length=16)(hY:Y.length=16):Bor X Y 0 0 (Dif X Y 16):=
 ⟨RL _ _ _,Zn hX hY,fun k hk=>by omega,fun h=>by rw[RM h];omega,fun k _ h=>by rw[RM h],.inl rfl⟩
theorem Bor.keep{X Y:List Int}{i:Nat}{t:Int}{ds:List Int}(h:Bor X Y i t ds)(hX:Dgs 65536 X)(hY:Dgs 65536 Y)(hi:i<15)(h0:0≤ds.getD i 0):Bor X Y (i+1) 0 ds:=by
 refine⟨h.len,h.num,fun k hk=>?_,fun h2=>by rw[h.hi (i+1) (by omega) h2];omega,fun k hk h2=>h.hi k (by omega) h2,.inl rfl⟩
 by_cases e:k=i
 ·subst e
  have h1:=h.at' (by omega);have hx:=hX.at (by omega) k;have hy:=hY.at (by omega) k;have hp:pd k≤65535:=by unfold pd;split<;>(try split)<;>omega
  rcases h.t01 with ht | ht<;>omega
 ·exact h.lo k (by omega)
theorem Bor.lend{X Y:List Int}{i:Nat}{t:Int}{ds:List Int}(h:Bor X Y i t ds)(hX:Dgs 65536 X)(hY:Dgs 65536 Y)(hi:i<15)(h0:ds.getD i 0<0):0≤ds.getD i 0+65536∧Bor X Y (i+1) 1 ((ds.set i (ds.getD i 0+65536)).set (i+1) (ds.getD (i+1) 0-1)):=by
 have hn:=h.len;have h1:=h.at' (by omega);have hx:=hX.at (by omega) i;have hy:=hY.at (by omega) i;have hp:pd i≤65535∧65517≤pd i:=by unfold pd;rw[if_neg (by omega)];split<;>omega
 have hge:0≤ds.getD i 0+65536:=by rcases h.t01 with ht | ht<;>omega
 refine⟨hge,by simp[hn],?_,fun k hk=>?_,fun h2=>?_,fun k hk h2=>?_,.inr ⟨rfl,by omega,?_⟩⟩
 ·rw[FX _ _ _ (by simp;omega),FX _ _ _ (by omega),Ch _ _ _ _ (by omega),if_neg (by omega),h.num,AcF]
  have e1:ds.getD i 0+65536-ds.getD i 0=65536:=by omega
  have e2:ds.getD (i+1) 0-1-ds.getD (i+1) 0=-1:=by omega
  rw[e1,e2];omega
 ·rw[Ch _ _ _ _ (by simp;omega),if_neg (by omega),Ch _ _ _ _ (by omega)]
  split
  ·omega
  ·exact h.lo k (by omega)
 ·rw[Ch _ _ _ _ (by simp;omega),if_pos rfl,h.hi (i+1) (by omega) h2]
 ·rw[Ch _ _ _ _ (by simp;omega),if_neg (by omega),Ch _ _ _ _ (by omega),if_neg (by omega)]
  exact h.hi k (by omega) h2
 ·by_cases e:i=0
  ·subst e
   have hp0:pd 0=65517:=rfl;refine⟨?_,fun k h1 h2=>by omega⟩
   rcases h.t01 with ht | ht<;>omega
  ·have hpi:pd i=65535:=by unfold pd;rw[if_neg (by omega),if_neg e]
   rcases h.t01 with ht | ⟨ht,_,h5,h6⟩
   ·omega
   ·refine⟨h5,fun k h7 h8=>?_⟩
    by_cases ek:k=i
    ·subst ek;omega
    ·exact h6 k h7 (by omega)
theorem Bor.done{X Y:List Int}{t:Int}{ds:List Int}(h:Bor X Y 15 t ds)(hX:Dgs 65536 X)(hY:Dgs 65536 Y)(hYl:Y.length=16)(hp:val Y<P255):val ds=val X+P255-val Y∧Dgs 4398046511104 ds:=by
 refine⟨h.num,Dgs.of fun k hk=>?_⟩;rw[h.len] at hk
 by_cases e:k=15
 ·subst e
  have h1:=h.at' (by omega);have hx:=hX.at (by omega) 15;have hy:=hY.at (by omega) 15;have hy0:=hY.at (by omega) 0;have hp15:pd 15=32767:=rfl
  have hs:65536 ^ 15*Y.getD 15 0≤val Y:=by
   have s1:=Em Y 15 (by omega);rw[Adc (l:=Y) (i:=15+1) (by omega)] at s1;have s2:=(hY.take 15).nonneg;omega
  have h15:Y.getD 15 0≤32767:=by
   simp only[AcY] at hs;unfold P255 at hp;omega
  rcases h.t01 with ht | ⟨ht,_,h5,h6⟩
  ·omega
  ·have:=J5 hYl (fun j a b=>h6 j a b)
   simp only[AcY] at this;unfold P255 at hp;omega
 ·have:=h.lo k (by omega);omega
end Go.Proofs.YthghcjepdhkfdaaGreatDoor.Fld
