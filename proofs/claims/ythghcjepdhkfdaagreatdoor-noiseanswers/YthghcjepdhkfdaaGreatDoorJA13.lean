/-
  Own text. What was laid is told, and a cookie that was hidden is found: the numbers.
-/
import Derived.Test.YthghcjepdhkfdaaGreatDoorJA12
import Derived.Test.YthghcjepdhkfdaaGreatDoorJA11
import Derived.Test.YthghcjepdhkfdaaGreatDoorJA10
import Derived.Test.YthghcjepdhkfdaaGreatDoorJA1
import Derived.Test.YthghcjepdhkfdaaGreatDoorRows
import Derived.SliceStrings
import Derived.OpenShut
set_option maxHeartbeats 16000000
set_option maxRecDepth 100000
open Array renaming ext_getElem?→Adh,getElem?_eq_getElem→AcN,getElem?_eq_none→AcI
open List renaming getElem?_eq_getElem→AcP,getElem?_eq_none→AcV,getElem?_take→Adj,length_take→AcT,setIfInBounds_toArray→Ac6,set_cons_succ→Ac5,set_cons_zero→Ac7
open Nat renaming add_sub_cancel_left→AcJ,le_refl→Ac4,zero_add→Ac9
namespace Go.Proofs.YthghcjepdhkfdaaGreatDoor
open Go.RowKit Go.Proofs
open Tryz
section
variable (m:ByteArray) (to:Nat→Int) (c:ByteArray) (hc:c.size=0∨c.size=16)
include hc
end
theorem ZK(m:ByteArray)(n:UInt8)(h:4≤m.size):C8 m 0 4=(n.toNat:Int)↔m.extract 0 4=⟨#[n,0,0,0]⟩:=by
 have h1:(m.extract 0 4).size=4:=by rw[ByteArray.size_extract];omega
 have h2:=JE m 0 h;rw[Ac9] at h2;rw[h2];exact P5 h1 n
theorem Rd(H C O R P S E:Nat→Int)(l f ix:Int)(w:World)(hE:Env w)(hH:Byts 32 H)(hC:Byts 32 C)(hR:Byts 32 R)(hP:Byts 32 P)(hS:Byts 32 S)(hEk:Byts 32 E):Calls prog 13 #[.agg (SC 162 (AY H C O R P l f)),.agg (WA .u8 32 S),.agg (WA .u8 32 E),.int .u32 ix] w fun e w'=>e=.returned (E7 H C R P S E f ix)∧Below w.heap.size w w':=by
 have hst:=fun u hu=>Rb H C O R P S E l f ix u hu hH hC hR hP hS hEk
 unfold Gj at hst;unfold E7
 by_cases hz:shZ E R=true∧shZ E P=true
 ·rw[if_pos hz] at hst ⊢
  exact U9 (AY H C O R P l f) S E ix _ _ w hE (B8 _ _ _ _) hst
 ·rw[if_neg hz] at hst ⊢
  exact UA (AY H C O R P l f) S E ix 18 w hE hst
theorem Re(O H C A R P S:Nat→Int)(l f:Int)(m:ByteArray)(w:World)(hE:Env w)(hO:Byts 32 O)(hH:Byts 32 H)(hC:Byts 32 C)(hA:Byts 32 A)(hS:Byts 32 S):Calls prog 15 #[.agg (WA .u8 32 O),.agg (SC 162 (AY H C A R P l f)),.agg (WA .u8 32 S),.string m] w fun e w'=>e=.returned (CJ O H C A S l m)∧Below w.heap.size w w':=by
 have hst:=fun u hu=>Rc O H C A R P S l f m u hu hO hH hC hA hS
 unfold Do at hst
 have no:∀X:Int,CJ O H C A S l m=JD X→(∀u,Env u→Calls prog 55 #[.agg (WA .u8 32 O),.agg (SC 162 (AY H C A R P l f)),.agg (WA .u8 32 S),.string m] u fun e w'=>e=gup X∧Below u.heap.size u w')→Calls prog 15 #[.agg (WA .u8 32 O),.agg (SC 162 (AY H C A R P l f)),.agg (WA .u8 32 S),.string m] w fun e w'=>e=.returned (CJ O H C A S l m)∧Below w.heap.size w w':=fun X hX h=>by
  rw[hX];exact UE O (AY H C A R P l f) S m X w hE h
 by_cases hs:m.size=92
 ·have hk:=ZK m 2 (by omega)
  by_cases ht:m.extract 0 4=⟨#[2,0,0,0]⟩
  ·have hk1:C8 m 0 4=2:=hk.2 ht
   have e8:C8 m 8 4=Hm (m.extract 8 12):=JE m 8 (by omega)
   by_cases h8:Hm (m.extract 8 12)=l
   ·by_cases hz:shZ A (fiE m)=true∧shZ O (fiE m)=true
    ·by_cases hf:(fiT H C A O S m).2=0
     ·simp only[if_neg (not_not_intro (And.intro hs hk1)),e8,if_neg (not_not_intro h8),if_neg (not_not_intro hz),if_neg (not_not_intro hf)] at hst
      have hR:CJ O H C A S l m=.tuple #[.agg (SC 66 (Da (fiN C A O S m 0) (fiN C A O S m 1) l (C8 m 4 4))),.int .i64 0]:=by
       unfold CJ;rw[if_neg (not_not_intro hs),if_neg (not_not_intro ht),if_neg (not_not_intro h8),if_neg (not_not_intro hz),if_neg (not_not_intro hf),JE m 4 (by omega)]
      rw[hR];exact UD O (AY H C A R P l f) S m _ w hE (B8 _ _ _ _) hst
     ·simp only[if_neg (not_not_intro (And.intro hs hk1)),e8,if_neg (not_not_intro h8),if_neg (not_not_intro hz),if_pos hf] at hst
      exact no 13 (by unfold CJ;rw[if_neg (not_not_intro hs),if_neg (not_not_intro ht),if_neg (not_not_intro h8),if_neg (not_not_intro hz),if_pos hf]) hst
    ·simp only[if_neg (not_not_intro (And.intro hs hk1)),e8,if_neg (not_not_intro h8),if_pos hz] at hst
     exact no 18 (by unfold CJ;rw[if_neg (not_not_intro hs),if_neg (not_not_intro ht),if_neg (not_not_intro h8),if_pos hz]) hst
   ·simp only[if_neg (not_not_intro (And.intro hs hk1)),e8,if_pos h8] at hst
    exact no 15 (by unfold CJ;rw[if_neg (not_not_intro hs),if_neg (not_not_intro ht),if_pos h8]) hst
  ·have hn:¬(m.size=92∧C8 m 0 4=2):=fun h=>ht (hk.1 h.2)
   simp only[if_pos hn,if_pos hs] at hst;exact no 11 (by unfold CJ;rw[if_neg (not_not_intro hs),if_pos ht]) hst
 ·have hn:¬(m.size=92∧C8 m 0 4=2):=fun h=>hs h.1
  simp only[if_pos hn,if_neg hs] at hst;exact no 10 (by unfold CJ;rw[if_pos hs]) hst
def Iu(O E:Nat→Int)(ix:Int)(i:Nat):Value:=if i<32 then .int .u8 (O i) else if i<64 then .int .u8 (E (i-32)) else .int .u32 ix
def JG(m:ByteArray)(S:Nat→Int)(i:Nat):Value:=if i<1 then .string m else .int .u8 (S (i-1))
section
variable {w:World} {b:Nat} {O E S R:Nat→Int} {ix l f:Int} {m:ByteArray}
theorem Sq(h:SAt w b 25 65 (Iu O E ix)):w.rangeAt b 0 (A9 .u8 32 O):=h.range (by omega) (fun j hj=>by unfold Iu;rw[Ac9,if_pos hj])
theorem Sr(h:SAt w b 25 65 (Iu O E ix)):w.rangeAt b 32 (A9 .u8 32 E):=h.range (by omega) (fun j hj=>by unfold Iu;rw[if_neg (by omega),if_pos (by omega),AcJ])
theorem Ss(h:SAt w b 25 65 (Iu O E ix)):w.cell? ⟨b,64,none⟩=some (.int .u32 ix):=h.at 64 (by omega)
theorem Su(h:SAt w b 39 33 (JG m S)):w.rangeAt b 1 (A9 .u8 32 S):=h.range (by omega) (fun j hj=>by unfold JG;rw[if_neg (by omega),AcJ])
theorem Sv(h:SAt w b 39 33 (JG m S)):w.cell? ⟨b,0,none⟩=some (.string m):=h.at 0 (by omega)
end
theorem UH(w:World):(zeroValue 41).run prog w=.ok (.agg (SC 66 CI)) w:=by kernel_rfl
theorem Hh{ops:Array Oper}{rest:List Oper}{d:Option Tmp}{t:TypeId}{ps:String}{af:Array Edge}{a:Act}{w:World}{Q:Exit→Act→World→Prop}(h:∀w',SAt w' w.heap.size 41 66 CI→Below w.heap.size w w'→wpList prog ops Q rest (a.put d (.pointer (some ⟨w.heap.size,0,none⟩))) w'):wpList prog ops Q ({ dst:=d,op:=.alloc 41,type:=t,pos:=ps,after:=af,guard:=none }::rest) a w:=
 CF rfl (AU UH rfl (fun w' hb hg=>h w' hg hb))
theorem Jh {f:Field} {fs:List Field} {xs:Array Value} {d:Nat} {w:World} {v:Value} (hn:f.name≠ "_") (hp:(part f.type xs f.offset).run prog w=.ok v w) (he:(Op.equalIn d f.type v v).run prog w=.ok true w) (hr:(Op.eqFields d xs xs fs).run prog w=.ok true w):(Op.eqFields d xs xs (f::fs)).run prog w=.ok true w:=by
 simp only[Op.eqFields,if_pos hn,Sem.run_bind,hp,Result.andThen_ok,he,Bool.not_true,Bool.false_eq_true,if_false,hr]
theorem Ack(w:World):(isAgg 22).run prog w=.ok true w:=by kernel_rfl
theorem Abf(w:World):(sizeOf 22).run prog w=.ok 32 w:=by kernel_rfl
theorem Abg(w:World):(isAgg 23).run prog w=.ok false w:=by kernel_rfl
theorem Abh{n o:Nat}{V:Nat→Value}{s:Nat→Int}(ho:o+32≤n)(hv:∀j,j<32→V (o+j)=.int .u8 (s j)):(SC n V).extract o (o+32)=WA .u8 32 s:=by
 apply Adh;intro i
 by_cases hi:i<32
 ·rw[Array.getElem?_extract_of_lt (by rw[CH];omega),←AcN,Of n V _ (by omega),hv i hi,Er _ _ _ _ hi]
 ·rw[AcI (by rw[Array.size_extract,CH];omega),AcI (by rw[A5];omega)]
theorem PF{n o:Nat}{V:Nat→Value}{s:Nat→Int}{t:TypeId}(ht:t=22)(ho:o+32≤n)(hv:∀j,j<32→V (o+j)=.int .u8 (s j))(w:World):(part t (SC n V) o).run prog w=.ok (.agg (WA .u8 32 s)) w:=by
 subst ht;unfold part;simp only[Sem.run_bind,Ack,Result.andThen_ok,if_true,Abf,Sem.run_pure,Abh ho hv]
theorem PG{n o:Nat}{V:Nat→Value}{k:Int}{t:TypeId}(ht:t=23)(ho:o<n)(hv:V o=.int .u32 k)(w:World):(part t (SC n V) o).run prog w=.ok (.int .u32 k) w:=by
 subst ht;unfold part;simp only[Sem.run_bind,Abg,Result.andThen_ok,Bool.false_eq_true,if_false,Of n V o ho,hv,Sem.run_pure]
theorem Yc(k:Int)(d:Nat)(w:World):(Op.equalIn (d+1) 23 (.int .u32 k) (.int .u32 k)).run prog w=.ok true w:=by
 rw[run_equalIn_int w d 23 .u32 .u32 k k underlying23,beq_self_eq_true]
theorem Yd(s:Nat→Int)(d:Nat)(w:World):(Op.equalIn (d+1+1) 22 (.agg (WA .u8 32 s)) (.agg (WA .u8 32 s))).run prog w=.ok true w:=UY underlying22 s d w
theorem Ye:∃f0 f1 f2 f3:Field,(Tryz.prog.fieldsOf 41).toList=[f0,f1,f2,f3]∧(f0.name≠ "_"∧f0.type=22∧f0.offset=0)∧(f1.name≠ "_"∧f1.type=22∧f1.offset=32)∧(f2.name≠ "_"∧f2.type=23∧f2.offset=64)∧(f3.name≠ "_"∧f3.type=23∧f3.offset=65):=by
 unfold Program.fieldsOf;rw[underlying41];exact⟨_,_,_,_,rfl,⟨by decide,rfl,rfl⟩,⟨by decide,rfl,rfl⟩,⟨by decide,rfl,rfl⟩,⟨by decide,rfl,rfl⟩⟩
theorem Nh(S R:Nat→Int)(l f:Int)(w:World):(Op.equalIn 10000 41 (.agg (SC 66 (Da S R l f))) (.agg (SC 66 (Da S R l f)))).run prog w=.ok true w:=by
 rw[show (10000:Nat)=9997+1+1+1 from rfl,run_equalIn_struct w (9997+1+1) 41 _ _ (by kernel_rfl) (by kernel_rfl)];obtain⟨f0,f1,f2,f3,hl,⟨n0,t0,o0⟩,⟨n1,t1,o1⟩,⟨n2,t2,o2⟩,⟨n3,t3,o3⟩⟩:=Ye;rw[hl];refine Jh n0 (v:=.agg (WA .u8 32 S)) (by rw[o0];exact PF t0 (by omega) (fun j hj=>by unfold Da;rw[Ac9,if_pos hj]) w) (by rw[t0];exact Yd _ _ w) ?_;refine Jh n1 (v:=.agg (WA .u8 32 R)) (by rw[o1];exact PF t1 (by omega) (fun j hj=>by unfold Da;rw[if_neg (by omega),if_pos (by omega),AcJ]) w) (by rw[t1];exact Yd _ _ w) ?_;refine Jh n2 (v:=.int .u32 l) (by rw[o2];exact PG t2 (by omega) rfl w) (by rw[t2];exact Yc _ _ w) ?_;refine Jh n3 (v:=.int .u32 f) (by rw[o3];exact PG t3 (by omega) rfl w) (by rw[t3];exact Yc _ _ w) ?_;rfl
theorem Acl:Tryz.prog.eqGuardType Tryz.prog.depth 41=false:=by kernel_rfl
theorem ZL{a:Act}{o:Oper}{w:World}{x y:Operand}{u:TypeId}(ho:o.op=.binOp .neq 41 x y u){S R:Nat→Int}{l f:Int}(hx:a.eval x=.agg (SC 66 (Da S R l f)))(hy:a.eval y=.agg (SC 66 (Da S R l f))):(execOp a.eval o).run prog w=.ok (.value (.bool false)) w:=by
 unfold execOp;simp only[ho,hx,hy,Sem.run_bind,run_eqGuard_agg w .neq 41 x y _ _ Acl,Result.andThen_ok,run_neq_struct,Nh,Sem.run_pure];rfl
theorem ZM{a:Act}{o:Oper}{w:World}{x y:Operand}{u:TypeId}(ho:o.op=.binOp .eql 41 x y u){S R:Nat→Int}{l f:Int}(hx:a.eval x=.agg (SC 66 (Da S R l f)))(hy:a.eval y=.agg (SC 66 (Da S R l f))):(execOp a.eval o).run prog w=.ok (.value (.bool true)) w:=by
 unfold execOp;simp only[ho,hx,hy,Sem.run_bind,run_eqGuard_agg w .eql 41 x y _ _ Acl,Result.andThen_ok,run_eql_struct,Nh,Sem.run_pure]
theorem PH(args:Array Value)(w:World):(callFunc 48 args).run prog w=.ok (.enter 48 args) w:=by kernel_rfl
theorem Ni(args:Array Value)(w:World):(callFunc 47 args).run prog w=.ok (.enter 47 args) w:=by kernel_rfl
theorem Ji(args:Array Value)(w:World):(callFunc 42 args).run prog w=.ok (.enter 42 args) w:=by kernel_rfl
theorem Nj(args:Array Value)(w:World):(callFunc 49 args).run prog w=.ok (.enter 49 args) w:=by kernel_rfl
theorem Yf{a:Act}{o:Oper}{w:World}{x:Operand}(ho:o.op=.fieldAddr 31 x 2){b:Nat}(hx:a.eval x=.pointer (some ⟨b,0,none⟩)):(execOp a.eval o).run prog w=.ok (.value (.pointer (some ⟨b,64,none⟩))) w:=by
 have h:(Instr.fieldAt 31 (.pointer (some ⟨b,0,none⟩)) 2).run prog w=.ok (.pointer (some ⟨b,64,none⟩)) w:=by simp[go_sem]
 unfold execOp;simp only[ho,hx,Sem.run_bind,h,Result.andThen_ok,Sem.run_pure]
theorem PI{a:Act}{o:Oper}{w:World}{x:Operand}(ho:o.op=.fieldAddr 31 x 5){b:Nat}(hx:a.eval x=.pointer (some ⟨b,0,none⟩)):(execOp a.eval o).run prog w=.ok (.value (.pointer (some ⟨b,160,none⟩))) w:=by
 have h:(Instr.fieldAt 31 (.pointer (some ⟨b,0,none⟩)) 5).run prog w=.ok (.pointer (some ⟨b,160,none⟩)) w:=by simp[go_sem]
 unfold execOp;simp only[ho,hx,Sem.run_bind,h,Result.andThen_ok,Sem.run_pure]
theorem UI{a:Act}{o:Oper}{w:World}{x y:Operand}(ho:o.op=.binOp .neq 23 x y 23){m n:Int}(hx:a.eval x=.int .u32 m)(hy:a.eval y=.int .u32 n){z:Bool}(hz:decide (¬m=n)=z):(execOp a.eval o).run prog w=.ok (.value (.bool z)) w:=by
 rw[←hz]
 by_cases e:m=n
 ·subst e
  rw[decide_eq_false (not_not_intro rfl)];exact Cm ho hx hy rfl (by simp[go_sem])
 ·rw[decide_eq_true e]
  exact Cm ho hx hy rfl (by simp[go_sem,e])
theorem PJ(O H C A Rm Pr S:Nat→Int)(l f:Int)(m:ByteArray)(w:World)(hO:Byts 32 O)(hH:Byts 32 H)(hC:Byts 32 C)(hA:Byts 32 A)(hS:Byts 32 S):Calls prog 16 #[.agg (WA .u8 32 O),.agg (SC 162 (AY H C A Rm Pr l f)),.agg (WA .u8 32 S),.string m] w fun e w'=>e=.returned (CJ O H C A S l m)∧Below w.heap.size w w':=by
 obtain⟨R,hR⟩:∃R,CJ O H C A S l m=R:=⟨_,rfl⟩;rw[hR];unfold CJ at hR;have g0:ArrAt ((((w.alloc (.cells (WA .u8 32 O) 22)).alloc (.cells (SC 162 (AY H C A Rm Pr l f)) 31)).alloc (.cells (WA .u8 32 S) 22)).alloc (.cells zeroCells41 41)) w.heap.size .u8 22 32 O:=Ix w _ _ _ _;have gh:SAt ((((w.alloc (.cells (WA .u8 32 O) 22)).alloc (.cells (SC 162 (AY H C A Rm Pr l f)) 31)).alloc (.cells (WA .u8 32 S) 22)).alloc (.cells zeroCells41 41)) (w.heap.size+1) 31 162 (AY H C A Rm Pr l f):=Iy w _ _ _ _;have g2:ArrAt ((((w.alloc (.cells (WA .u8 32 O) 22)).alloc (.cells (SC 162 (AY H C A Rm Pr l f)) 31)).alloc (.cells (WA .u8 32 S) 22)).alloc (.cells zeroCells41 41)) (w.heap.size+1+1) .u8 22 32 S:=Iz w _ _ _ _;have gP:SAt ((((w.alloc (.cells (WA .u8 32 O) 22)).alloc (.cells (SC 162 (AY H C A Rm Pr l f)) 31)).alloc (.cells (WA .u8 32 S) 22)).alloc (.cells zeroCells41 41)) (w.heap.size+1+1+1) 41 66 CI:=by unfold SAt;rw[←CP];exact E4 w _ _ _ _
 have hB:Below w.heap.size w ((((w.alloc (.cells (WA .u8 32 O) 22)).alloc (.cells (SC 162 (AY H C A Rm Pr l f)) 31)).alloc (.cells (WA .u8 32 S) 22)).alloc (.cells zeroCells41 41)):=((((Below.refl _ w).alloc (by simp) _).alloc (by simp) _).alloc (by simp;omega) _).alloc (by simp;omega) _;go_enter func16,ntmps16
 by_cases h1:m.size=92
 case neg =>
  have h1I:¬(m.size:Int)=92:=by omega
  rw[if_pos h1] at hR
  go_wp2_with (first|(refine Ae rfl (DB rfl) ?_)|(refine Dw AW (B8 _ _ _ _) gP (by rfl) (by rfl) ?_;intro u9 gP9 o9;refine Hid.out ?_))
  refine Hid.mk ?_;replace hB:=hB.trans (o9.below (by omega));go_wp2_with fail;exact bodyPost_ret (v:=JD 10) (Gi results16 AW gP9 (by rfl) (by rfl)) rfl ⟨by rw[←hR],hB⟩
 have h1I:(m.size:Int)=92:=by omega
 rw[if_neg (not_not_intro h1)] at hR;have HM4:Hid (4≤m.size):=Hid.mk (by omega)
 by_cases h2:m.extract 0 4=⟨#[2,0,0,0]⟩
 case neg =>
  have HN:=Hid.mk h2;rw[if_pos h2] at hR
  go_wp2_with (first|(refine Ae rfl (Dt rfl (by rfl) (by rfl) (Sz m 4 _ HM4.out)) ?_)|(refine Ae rfl (FK rfl (by rfl) (by rfl) HN.out) ?_)|(refine Ae rfl (DB rfl) ?_)|(refine Dw AW (B8 _ _ _ _) gP (by rfl) (by rfl) ?_;intro u9 gP9 o9;refine Hid.out ?_))
  refine Hid.mk ?_;replace hB:=hB.trans (o9.below (by omega));go_wp2_with fail;exact bodyPost_ret (v:=JD 11) (Gi results16 AW gP9 (by rfl) (by rfl)) rfl ⟨by rw[←hR],hB⟩
 rw[if_neg (not_not_intro h2)] at hR;have HN:=Hid.mk h2;have s1':(m.extract 12 44).size=32:=by rw[ByteArray.size_extract];omega
 have s2':(m.extract 44 60).size=16:=by rw[ByteArray.size_extract];omega
 have s4':(m.extract 4 8).size=4:=by rw[ByteArray.size_extract];omega
 have s8':(m.extract 8 12).size=4:=by rw[ByteArray.size_extract];omega
 have hEb:Byts 32 (fiE m):=fun j _=>B5 _ j
 have HS4:Hid (∀u,(Instr.sliceAt 9 (.string m) (some (.int .i64 4)) (some (.int .i64 8)) none).run prog u=.ok (.string (m.extract 4 8)) u):=Hid.mk (fun u=>JN m 4 8 u (by omega) (by omega));have HS8:Hid (∀u,(Instr.sliceAt 9 (.string m) (some (.int .i64 8)) (some (.int .i64 12)) none).run prog u=.ok (.string (m.extract 8 12)) u):=Hid.mk (fun u=>JN m 8 12 u (by omega) (by omega));have HS12:Hid (∀u,(Instr.sliceAt 9 (.string m) (some (.int .i64 12)) (some (.int .i64 44)) none).run prog u=.ok (.string (m.extract 12 44)) u):=Hid.mk (fun u=>JN m 12 44 u (by omega) (by omega));have HS44:Hid (∀u,(Instr.sliceAt 9 (.string m) (some (.int .i64 44)) (some (.int .i64 60)) none).run prog u=.ok (.string (m.extract 44 60)) u):=Hid.mk (fun u=>JN m 44 60 u (by omega) (by omega));have HKY:Hid (∀u,Calls prog 47 #[.string (m.extract 12 44)] u fun e w'=>e=.returned (.agg (WA .u8 32 (fiE m)))∧Below u.heap.size u w'):=Hid.mk (fun u=>Wj _ u s1');have HSH1:=Hid.mk (fun u=>Fo A (fiE m) u hA hEb);have HSH2:=Hid.mk (fun u=>Fo O (fiE m) u hO hEb);have HNM:=Hid.mk (fun u=>Pt (m.extract 4 8) u s4');have HN8:=Hid.mk (fun u=>Pt (m.extract 8 12) u s8');have hBO:∀(b:Nat) (u:World),StAt u b H C→Calls prog 52 #[.pointer (some ⟨b,0,none⟩),.string (m.extract 12 44),.agg (WA .u8 32 (shF A (fiE m))),.agg (WA .u8 32 (shF O (fiE m))),.agg (WA .u8 32 (S))] u fun x w'=>x=.returned (.agg (WA .u8 32 (fiL C A O S m 2)))∧StAt w' b (fiH H C A O S m) (fiL C A O S m 0)∧Touch (fun x=>x=b) u w':=fun b u g=>MW b H C _ _ _ S u g hH hC (MU _ _ 32) (MU _ _ 32) hS (by omega)
 have HOP:Hid (∀(b:Nat) (u:World),StAt u b (fiH H C A O S m) (fiL C A O S m 0)→Calls prog 48 #[.pointer (some ⟨b,0,none⟩),.agg (WA .u8 32 (fiL C A O S m 2)),.string (m.extract 44 60)] u fun e w'=>e=.returned (.tuple #[.string (fiT H C A O S m).1,.bool (decide ((fiT H C A O S m).2=0))])∧StAt w' b (Dk (fiH H C A O S m) (m.extract 44 60)) (fiL C A O S m 0)∧Touch (fun x=>x=b) u w'):=Hid.mk (fun b u g=>Qt b _ _ _ _ u g (Oe _ _ _ _ _ 2 32) (Xo _ _ _ _ _ _ 32) (by omega));have hCh:=fun u=>Ic 2 (fiL C A O S m 0) ⟨#[]⟩ u (Oe _ _ _ _ _ 0 32) (by omega) (by omega) (of_decide_eq_true rfl)
 have hfN:fiN C A O S m=chK (DL (mkS 32 (fiL C A O S m 0)) ⟨#[]⟩):=rfl;rw[hfN] at hR;clear hfN s1' s2' s4' s8' hEb hH hC hA hS h1 h2;generalize chK (DL (mkS 32 (fiL C A O S m 0)) ⟨#[]⟩)=N at *;generalize Hm (m.extract 4 8)=ix at *;generalize m.extract 4 8=x4 at *;generalize Hm (m.extract 8 12)=n8 at *;generalize m.extract 8 12=x8 at *;generalize fiT H C A O S m=TP at *;generalize Dk (fiH H C A O S m) (m.extract 44 60)=H2 at *;generalize fiH H C A O S m=H1 at *;generalize fiL C A O S m=L at *;generalize shF A (fiE m)=s1 at *;generalize shZ A (fiE m)=z1 at *;generalize shF O (fiE m)=s2 at *;generalize shZ O (fiE m)=z2 at *;generalize fiE m=E at *;generalize m.extract 12 44=e0 at *;generalize m.extract 44 60=x1 at *;obtain⟨zq,hzq⟩:∃z,decide (¬n8=l)=z:=⟨_,rfl⟩;have HZQ:=Hid.mk hzq
 go_wp2_with (first|(refine Ae rfl (Dt rfl (by rfl) (by rfl) (Sz m 4 _ HM4.out)) ?_)|(refine Ae rfl (Jm rfl (by rfl) (by rfl) HN.out) ?_))
 refine AH (fun u=>ArrAt u w.heap.size .u8 22 32 O∧SAt u (w.heap.size+1) 31 162 (AY H C A Rm Pr l f)∧ArrAt u (w.heap.size+1+1) .u8 22 32 S∧SAt u (w.heap.size+1+1+1) 41 66 CI∧Below w.heap.size w u) ⟨g0,gh,g2,gP,hB⟩ ?_;clear g0 gh g2 gP hB;rintro v0 ⟨g0,gh,g2,gP,hB⟩;have HGH:Hid (∀u,Below v0.heap.size v0 u→SAt u (w.heap.size+1) 31 162 (AY H C A Rm Pr l f)):=Hid.mk (fun u hu=>gh.kept hu);refine Ai (Below v0.heap.size v0) v0.heap.size
   ([]:List (Nat×Cont))
   [kv (.string m),kv (.string x8),kv (.int .u32 n8),kv (.pointer (some ⟨(w.heap.size+1),160,none⟩)),kv (.int .u32 l),kv (.bool zq)]
   []
   [some 29,some 30,some 31,some 32,some 33,some 34]
   [(3,.string m),(5,.pointer (some ⟨(w.heap.size+1),0,none⟩))]
   [[],[.slot 0],[.slot 1],[],[.slot 3],[.slot 2,.slot 4]]
   [.slot 5] [29,30,31,32,33,34]
   rfl (by kernel_rfl) ⟨rfl,rfl,trivial⟩ (Below.refl _ v0).drew (Ac4 _) trivial trivial (A6 (Ac4 _) trivial)
   ⟨
    sL fun f _=>sV (Ab rfl f.1),
    (fun _ _ ww _ _ _ _ kn=>sV (C4 (u:=.int .i64 8) (u':=.int .i64 12) rfl kn.1 rfl rfl (HS8.out ww))),
    (fun _ _ ww _ _ _ _ kn=>.inl ⟨trivial,fun K hK=>AD Nj rfl (BE kn.1) (HN8.out ww) (fun w' hb=>hK _ _ ⟨Ad hb,rfl⟩)⟩),
    sL fun f _=>sV (PI rfl f.2.1),
    (fun _ _ ww _ hS _ _ kn=>sV (Au rfl kn.1 (BT (RZ (HGH.out ww hS))))),
    sL fun _ k=>sV (UI rfl k.1 k.2.1 HZQ.out),
    trivial⟩ ?_
 intro vs own v1 hb hsz kn inj;clear inj hsz HGH;have e34:vs 34=_:=kn.1;clear kn;replace g0:=g0.kept hb;replace gh:=gh.kept hb;replace g2:=g2.kept hb;replace gP:=gP.kept hb;replace hB:=hB.trans (hb.mono hB.size);clear hb;simp only[Ap,Act.put,Ac6,Ac7,Ac5,e34];clear e34
 by_cases h3:n8=l
 case neg =>
  obtain rfl:zq=true:=by rw[←hzq];exact decide_eq_true h3
  rw[if_pos h3] at hR
  go_wp2_with (first|(refine Ae rfl (DB rfl) ?_)|(refine Dw AW (B8 _ _ _ _) gP (by rfl) (by rfl) ?_;intro u9 gP9 o9;refine Hid.out ?_))
  refine Hid.mk ?_;replace hB:=hB.trans (o9.below (by omega));go_wp2_with fail;exact bodyPost_ret (v:=JD 15) (Gi results16 AW gP9 (by rfl) (by rfl)) rfl ⟨by rw[←hR],hB⟩
 obtain rfl:zq=false:=by rw[←hzq];exact decide_eq_false (not_not_intro h3)
 rw[if_neg (not_not_intro h3)] at hR;have hrh:=Xq gh;have hrc:=Xr gh;have lP:=gP.lt
 go_wp2_with (first|(refine Ae rfl (Al rfl Af (by rfl) hrh) ?_)|(refine Ae rfl (Al rfl Af (by rfl) hrc) ?_)|(refine Ae rfl (Pu rfl (by rfl) (by rfl)) ?_)|(refine P3 (by rfl) ?_;intro v2 g hb;refine Hid.out ?_))
 clear hrh hrc;replace g0:=g0.kept hb;replace gh:=gh.kept hb;replace g2:=g2.kept hb;replace gP:=gP.kept hb;replace hB:=hB.trans (hb.mono hB.size);clear hb;refine Hid.mk ?_;obtain⟨b,hbv⟩:∃b,v1.heap.size=b:=⟨_,rfl⟩;rw[hbv] at g lP ⊢;clear hbv
 go_wp2_with (refine Ae rfl (C4 (u:=.int .i64 12) (u':=.int .i64 44) rfl (by rfl) (by rfl) (by rfl) (HS12.out _)) ?_)
 go_wp2_with fail;have HG0:Hid (∀u,Below v2.heap.size v2 u→ArrAt u w.heap.size .u8 22 32 O):=Hid.mk (fun u hu=>g0.kept hu);have HGH:Hid (∀u,Below v2.heap.size v2 u→SAt u (w.heap.size+1) 31 162 (AY H C A Rm Pr l f)):=Hid.mk (fun u hu=>gh.kept hu);refine Ai (Below v2.heap.size v2) v2.heap.size
   ([]:List (Nat×Cont))
   [kv (.pointer (some ⟨(w.heap.size+1),64,none⟩)),kv (.agg (WA .u8 32 (A))),kv (.string e0),kv (.agg (WA .u8 32 (E))),kv (.tuple #[.agg (WA .u8 32 s1),.bool z1]),kv (.tuple #[.agg (WA .u8 32 s1),.bool z1]),kv (.agg (WA .u8 32 (s1))),kv (.bool z1),kp (WA .u8 32 fun _=>0) 22 9 (WA .u8 32 s1),.val fun _=>True,kv (.bool z1)]
   [.none,.none,.none,.none,.none,.none,.none,.none,.none,.own 8 1]
   [some 45,some 46,some 47,some 48,some 49,some 44,some 50,some 51,some 12,none,some 13]
   [(11,.string e0),(5,.pointer (some ⟨(w.heap.size+1),0,none⟩))]
   [[],[.slot 0],[],[.slot 2],[.slot 1,.slot 3],[.slot 4],[.slot 5],[.slot 5],[],[.slot 8,.cont 8 0,.slot 6],[.slot 7]]
   [.slot 10,.slot 8,.cont 8 1] [45,46,47,48,49,44,50,51,12,13]
   rfl (by kernel_rfl) ⟨rfl,rfl,trivial⟩ (Below.refl _ v2).drew (Ac4 _) trivial trivial (A6 (Ac4 _) trivial)
   ⟨
    sL fun f _=>sV (Yf rfl f.2.1),
    (fun _ _ ww _ hS _ _ kn=>sV (Al rfl Af kn.1 (Aac (HGH.out ww hS)))),
    sL fun f _=>sV (Ab rfl f.1),
    (fun _ _ ww _ _ _ _ kn=>.inl ⟨trivial,fun K hK=>AD Ni rfl (BE kn.1) (HKY.out ww) (fun w' hb=>hK _ _ ⟨Ad hb,rfl⟩)⟩),
    (fun _ _ ww _ _ _ _ kn=>.inl ⟨trivial,fun K hK=>AD Ji rfl (CC kn.1 kn.2.1) (HSH1.out ww) (fun w' hb=>hK _ _ ⟨Ad hb,rfl⟩)⟩),
    sL fun _ k=>sV (Ab rfl k.1),
    sL fun _ k=>sV (CL rfl k.1 rfl),
    sL fun _ k=>sV (CL rfl k.1 rfl),
    sL fun _ _=>.inl ⟨trivial,fun K hK=>AU H8 rfl (fun w' hb hg=>hK _ _ ⟨Ad hb,_,Ac4 _,rfl,Ao hg⟩)⟩,
    sL fun _ k=>.inl ⟨trivial,fun K hK=>BQ rfl Af k.1.1 k.2.2.1 (Ak k.2.1) (fun w2 hg ho=>hK _ _ ⟨Ag ho,Ao hg,trivial⟩)⟩,
    sL fun _ k=>sV (Az rfl k.1),
    trivial⟩ ?_
 intro vs own v3 hb hsz kn inj;clear inj hsz HG0 HGH;obtain⟨e11,k7,c7,-⟩:=kn;obtain⟨e10,hge,hlt⟩:=k7;change vs 13=_ at e11;change vs 12=_ at e10;have ga:ArrAt v3 (own 8) .u8 22 32 s1:=Ak c7;clear c7;have lga:=g.lt;replace g0:=g0.kept hb;replace gh:=gh.kept hb;replace g2:=g2.kept hb;replace gP:=gP.kept hb;replace g:=g.kept hb;replace hB:=hB.trans (hb.mono hB.size);clear hb;simp only[Ap,Act.put,Ac6,Ac7,Ac5,e10,e11];generalize own 8=bga at *;clear e10 e11;go_wp2_with fail;have HG0:Hid (∀u,Below v3.heap.size v3 u→ArrAt u w.heap.size .u8 22 32 O):=Hid.mk (fun u hu=>g0.kept hu);have HGH:Hid (∀u,Below v3.heap.size v3 u→SAt u (w.heap.size+1) 31 162 (AY H C A Rm Pr l f)):=Hid.mk (fun u hu=>gh.kept hu);refine Ai (Below v3.heap.size v3) v3.heap.size
   ([]:List (Nat×Cont))
   [kv (.agg (WA .u8 32 (O))),kv (.string e0),kv (.agg (WA .u8 32 (E))),kv (.tuple #[.agg (WA .u8 32 s2),.bool z2]),kv (.tuple #[.agg (WA .u8 32 s2),.bool z2]),kv (.agg (WA .u8 32 (s2))),kv (.bool z2),kp (WA .u8 32 fun _=>0) 22 8 (WA .u8 32 s2),.val fun _=>True,kv (.bool z2)]
   [.none,.none,.none,.none,.none,.none,.none,.none,.own 7 1]
   [some 53,some 54,some 55,some 56,some 52,some 57,some 58,some 14,none,some 15]
   [(11,.string e0),(4,.pointer (some ⟨w.heap.size,0,none⟩))]
   [[],[],[.slot 1],[.slot 0,.slot 2],[.slot 3],[.slot 4],[.slot 4],[],[.slot 7,.cont 7 0,.slot 5],[.slot 6]]
   [.slot 9,.slot 7,.cont 7 1] [53,54,55,56,52,57,58,14,15]
   rfl (by kernel_rfl) ⟨rfl,rfl,trivial⟩ (Below.refl _ v3).drew (Ac4 _) trivial trivial (A6 (Ac4 _) trivial)
   ⟨
    (fun _ _ ww _ hS _ fr _=>sV (Bg rfl Af (HG0.out ww hS) fr.2.1)),
    sL fun f _=>sV (Ab rfl f.1),
    (fun _ _ ww _ _ _ _ kn=>.inl ⟨trivial,fun K hK=>AD Ni rfl (BE kn.1) (HKY.out ww) (fun w' hb=>hK _ _ ⟨Ad hb,rfl⟩)⟩),
    (fun _ _ ww _ _ _ _ kn=>.inl ⟨trivial,fun K hK=>AD Ji rfl (CC kn.1 kn.2.1) (HSH2.out ww) (fun w' hb=>hK _ _ ⟨Ad hb,rfl⟩)⟩),
    sL fun _ k=>sV (Ab rfl k.1),
    sL fun _ k=>sV (CL rfl k.1 rfl),
    sL fun _ k=>sV (CL rfl k.1 rfl),
    sL fun _ _=>.inl ⟨trivial,fun K hK=>AU H8 rfl (fun w' hb hg=>hK _ _ ⟨Ad hb,_,Ac4 _,rfl,Ao hg⟩)⟩,
    sL fun _ k=>.inl ⟨trivial,fun K hK=>BQ rfl Af k.1.1 k.2.2.1 (Ak k.2.1) (fun w2 hg ho=>hK _ _ ⟨Ag ho,Ao hg,trivial⟩)⟩,
    sL fun _ k=>sV (Az rfl k.1),
    trivial⟩ ?_
 intro vs own v4 hb hsz kn inj;clear inj hsz HG0 HGH;obtain⟨e11,k7,c7,-⟩:=kn;obtain⟨e10,hge,hlt⟩:=k7;change vs 15=_ at e11;change vs 14=_ at e10;have gb:ArrAt v4 (own 7) .u8 22 32 s2:=Ak c7;clear c7;have lgb:=g.lt;replace g0:=g0.kept hb;replace gh:=gh.kept hb;replace g2:=g2.kept hb;replace gP:=gP.kept hb;replace g:=g.kept hb;replace ga:=ga.kept hb;replace hB:=hB.trans (hb.mono hB.size);clear hb;simp only[Ap,Act.put,Ac6,Ac7,Ac5,e10,e11];generalize own 7=bgb at *;clear e10 e11;cases z1
 ·rw[if_pos (by simp)] at hR
  go_wp2_with (first|(refine Ae rfl (DB rfl) ?_)|(refine Dw AW (B8 _ _ _ _) gP (by rfl) (by rfl) ?_;intro u9 gP9 o9;refine Hid.out ?_))
  refine Hid.mk ?_;replace hB:=hB.trans (o9.below (by omega));go_wp2_with fail;exact bodyPost_ret (v:=JD 18) (Gi results16 AW gP9 (by rfl) (by rfl)) rfl ⟨by rw[←hR],hB⟩
 cases z2
 ·rw[if_pos (by simp)] at hR
  go_wp2_with (first|(refine Ae rfl (DB rfl) ?_)|(refine Dw AW (B8 _ _ _ _) gP (by rfl) (by rfl) ?_;intro u9 gP9 o9;refine Hid.out ?_))
  refine Hid.mk ?_;replace hB:=hB.trans (o9.below (by omega));go_wp2_with fail;exact bodyPost_ret (v:=JD 18) (Gi results16 AW gP9 (by rfl) (by rfl)) rfl ⟨by rw[←hR],hB⟩
 rw[if_neg (by simp)] at hR
 go_wp2_with (first|(refine Aq Af ga (by rfl) ?_)|(refine Aq Af gb (by rfl) ?_)|(refine Aq Af g2 (by rfl) ?_))
 refine(hBO b _ g).mono ?_;rintro x v5 ⟨rfl,gn,t1⟩;have lb0:=g.lt;clear g;replace g0:=g0.tou t1 (by omega);replace gh:=gh.tou t1 (by omega);replace g2:=g2.tou t1 (by omega);replace gP:=gP.tou t1 (by omega);replace hB:=Br hB t1 (by omega) (Ac4 _);clear t1;have g:=gn;clear gn ga gb;have lg:=g.lt;have lp:=gP.lt
 go_wp2_with (refine Ci ?_;intro v6 gk0 hb;refine Hid.out ?_)
 replace g0:=g0.kept hb;replace gh:=gh.kept hb;replace g2:=g2.kept hb;replace gP:=gP.kept hb;replace g:=g.kept hb;replace hB:=hB.trans (hb.mono hB.size);clear hb;refine Hid.mk ?_
 go_wp2_with (refine A0 Af gk0 (by rfl) (by rfl) ?_;intro v8 gk o6;refine Hid.out ?_)
 replace g0:=g0.only o6 (by omega);replace gh:=gh.only o6 (by omega);replace g2:=g2.only o6 (by omega);replace gP:=gP.only o6 (by omega);replace g:=g.block (o6.block b (by omega));replace hB:=hB.trans (o6.below (by have:=hB.size;omega));clear o6 gk0;refine Hid.mk ?_;obtain⟨bk,hbk⟩:∃b,v5.heap.size=b:=⟨_,rfl⟩;rw[hbk] at gk lg lp ⊢;clear hbk;obtain⟨T1,hT1e⟩:∃X,TP.1=X:=⟨_,rfl⟩;obtain⟨zT,hzT⟩:∃X,decide (TP.2=0)=X:=⟨_,rfl⟩;rw[hT1e,hzT] at HOP;go_wp2_with fail;have HGK:Hid (∀u,Touch (fun x=>x=b) v8 u→ArrAt u bk .u8 22 32 (L 2)):=Hid.mk (fun u hu=>gk.tou hu (by omega));refine Ai (Touch (fun x=>x=b) v8) v8.heap.size
   [(b,once (WA .u8 64 (cat 32 H1 (L 0))) 84 4 (WA .u8 64 (cat 32 H2 (L 0))))]
   [kv (.pointer (some ⟨b,0,none⟩)),kv (.agg (WA .u8 32 (L 2))),kv (.string m),kv (.string x1),kv (.tuple #[.string T1,.bool zT]),kv (.tuple #[.string T1,.bool zT]),kv (.string T1),kv (.bool zT),kv (.string T1),kv (.bool zT)]
   [.none,.none,.none,.none,.base 0 1]
   [some 73,some 74,some 75,some 76,some 77,some 72,some 78,some 79,some 17,some 18]
   [(10,.pointer (some ⟨b,0,none⟩)),(16,.pointer (some ⟨bk,0,none⟩)),(3,.string m)]
   [[],[],[],[.slot 2],[.slot 0,.slot 1,.slot 3,.base 0 0],[.slot 4],[.slot 5],[.slot 5],[.slot 6],[.slot 7]]
   [.base 0 1,.slot 8,.slot 9] [73,74,75,76,77,72,78,79,17,18]
   rfl (by kernel_rfl) ⟨rfl,rfl,rfl,trivial⟩ (CZ b (Below.refl _ v8).drew) (Ac4 _) ⟨⟨g.lt,Ao g⟩,trivial⟩ ⟨trivial,trivial⟩ Fq
   ⟨
    sL fun f _=>sV (Ab rfl f.1),
    (fun _ _ ww _ hS _ fr _=>sV (Bg rfl Af (HGK.out ww hS) fr.2.1)),
    sL fun f _=>sV (Ab rfl f.2.2.1),
    (fun _ _ ww _ _ _ _ kn=>sV (C4 (u:=.int .i64 44) (u':=.int .i64 60) rfl kn.1 rfl rfl (HS44.out ww))),
    (fun _ _ ww _ _ _ _ kn=>.inl ⟨trivial,fun K hK=>AbT PH rfl (JK kn.1 kn.2.1 kn.2.2.1) (HOP.out b ww (Ak kn.2.2.2.1)) (fun w' hg ht=>hK _ _ ⟨⟨ht,Ao hg⟩,rfl⟩)⟩),
    sL fun _ k=>sV (Ab rfl k.1),
    sL fun _ k=>sV (CL rfl k.1 rfl),
    sL fun _ k=>sV (CL rfl k.1 rfl),
    sL fun _ k=>sV (Az rfl k.1),
    sL fun _ k=>sV (Az rfl k.1),
    trivial⟩ ?_
 intro vs own v9 hT1 hsz kn inj;clear inj hsz HGK;obtain⟨kg,e1,e2,-⟩:=kn;change vs 17=_ at e1;change vs 18=_ at e2;have gn:StAt v9 b H2 (L 0):=Ak kg;clear kg g;replace g0:=g0.tou hT1 (by omega);replace gh:=gh.tou hT1 (by omega);replace g2:=g2.tou hT1 (by omega);replace gP:=gP.tou hT1 (by omega);replace hB:=Br hB hT1 (by omega) (Ac4 _);clear hT1;have g:=gn;clear gn gk;simp only[Ap,Act.put,Ac6,Ac7,Ac5,e1,e2];clear e1 e2
 by_cases ht:TP.2=0
 case neg =>
  obtain rfl:zT=false:=by rw[←hzT];exact decide_eq_false ht
  rw[if_pos ht] at hR
  go_wp2_with (first|(refine Ae rfl (DB rfl) ?_)|(refine Dw AW (B8 _ _ _ _) gP (by rfl) (by rfl) ?_;intro u9 gP9 o9;refine Hid.out ?_))
  refine Hid.mk ?_;replace hB:=hB.trans (o9.below (by omega));go_wp2_with fail;exact bodyPost_ret (v:=JD 13) (Gi results16 AW gP9 (by rfl) (by rfl)) rfl ⟨by rw[←hR],hB⟩
 obtain rfl:zT=true:=by rw[←hzT];exact decide_eq_true ht
 rw[if_neg (not_not_intro ht)] at hR;have hr:=g.c;have lq:=gP.lt
 go_wp2_with (refine Ae rfl (Al rfl Af (by rfl) hr) ?_)
 refine(hCh _).mono ?_;rintro x w20 ⟨vl,Bl,rfl,hBl,hO2,hb⟩;obtain⟨gl,cl,rfl,hgl,rL⟩:=IC hO2 (by omega);replace g0:=g0.kept hb;replace gh:=gh.kept hb;replace g2:=g2.kept hb;replace gP:=gP.kept hb;replace g:=g.kept hb;replace hB:=hB.trans (hb.mono hB.size);clear hb;clear hr hCh hO2;go_wp2_with fail;have HGH:Hid (∀u,Touch (fun x=>x=(w.heap.size+1+1+1)) w20 u→SAt u (w.heap.size+1) 31 162 (AY H C A Rm Pr l f)):=Hid.mk (fun u hu=>gh.tou hu (by omega));have HRL:Hid (∀u,Touch (fun x=>x=(w.heap.size+1+1+1)) w20 u→RowsAt u gl 2 0 N):=Hid.mk (fun u hu=>rL.touch hu (by omega));refine Ai (Touch (fun x=>x=(w.heap.size+1+1+1)) w20) w20.heap.size
   [((w.heap.size+1+1+1),once (SC 66 CI) 41 12 (SC 66 (Da (N 0) (N 1) l ix)))]
   [kv (.slice (some ⟨gl,0,none⟩) 2 cl),kv (.pointer (some ⟨gl,0*32,none⟩)),kv (.agg (WA .u8 32 (N 0))),kv (.slice (some ⟨gl,0,none⟩) 2 cl),kv (.pointer (some ⟨gl,1*32,none⟩)),kv (.agg (WA .u8 32 (N 1))),kv (.pointer (some ⟨(w.heap.size+1),160,none⟩)),kv (.int .u32 l),kv (.string m),kv (.string x4),kv (.int .u32 ix),kv (.agg (SC 66 (Da (N 0) (N 1) l ix))),.val fun _=>True,kv (.int .i64 0)]
   [.none,.none,.none,.none,.none,.none,.none,.none,.none,.none,.none,.none,.base 0 1]
   [some 91,some 92,some 93,some 94,some 95,some 96,some 97,some 98,some 99,some 100,some 101,some 102,none,some 9]
   [(19,.slice (some ⟨gl,0,none⟩) 2 cl),(5,.pointer (some ⟨(w.heap.size+1),0,none⟩)),(3,.string m),(8,.pointer (some ⟨(w.heap.size+1+1+1),0,none⟩))]
   [[],[.slot 0],[.slot 1],[],[.slot 3],[.slot 4],[],[.slot 6],[],[.slot 8],[.slot 9],[.slot 2,.slot 5,.slot 7,.slot 10],[.slot 11,.base 0 0],[]]
   [.base 0 1,.slot 13] [91,92,93,94,95,96,97,98,99,100,101,102,9]
   rfl (by kernel_rfl) ⟨rfl,rfl,rfl,rfl,trivial⟩ (CZ (w.heap.size+1+1+1) (Below.refl _ w20).drew) (Ac4 _) ⟨⟨gP.lt,Ao gP⟩,trivial⟩ ⟨trivial,trivial⟩ Fq
   ⟨
    sL fun f _=>sV (Ab rfl f.1),
    sL fun _ k=>sV (Bx (i:=0) rfl k.1 rfl (by omega)),
    (fun _ _ ww _ hS _ _ kn=>sV (Al rfl Af kn.1 ((HRL.out ww hS).range (Nat.zero_le 0) (by omega)))),
    sL fun f _=>sV (Ab rfl f.1),
    sL fun _ k=>sV (Bx (i:=1) rfl k.1 rfl (by omega)),
    (fun _ _ ww _ hS _ _ kn=>sV (Al rfl Af kn.1 ((HRL.out ww hS).range (Nat.zero_le 1) (by omega)))),
    sL fun f _=>sV (PI rfl f.2.1),
    (fun _ _ ww _ hS _ _ kn=>sV (Au rfl kn.1 (BT (RZ (HGH.out ww hS))))),
    sL fun f _=>sV (Ab rfl f.2.2.1),
    (fun _ _ ww _ _ _ _ kn=>sV (C4 (u:=.int .i64 4) (u':=.int .i64 8) rfl kn.1 rfl rfl (HS4.out ww))),
    (fun _ _ ww _ _ _ _ kn=>.inl ⟨trivial,fun K hK=>AD Nj rfl (BE kn.1) (HNM.out ww) (fun w' hb=>hK _ _ ⟨Ad hb,rfl⟩)⟩),
    sL fun _ k=>sV (IV rfl k.1 k.2.1 k.2.2.1 k.2.2.2.1),
    sL fun f k=>.inl ⟨trivial,fun K hK=>Ed rfl AW (B8 _ _ _ _) f.2.2.2.1 k.1 (Ak k.2.1) (fun w2 hg ho=>hK _ _ ⟨⟨Ag ho,Ao hg⟩,trivial⟩)⟩,
    sL fun _ _=>sV (Az (v:=.int .i64 0) rfl rfl),
    trivial⟩ ?_
 intro vs own vZ hT9 hsz kn inj;clear inj hsz HGH HRL;have gP9:SAt vZ (w.heap.size+1+1+1) 41 66 (Da (N 0) (N 1) l ix):=Ak kn.1;have e9:vs 9=_:=kn.2.1;clear kn;replace hB:=Br hB hT9 (by omega) (Ac4 _);simp only[Ap,Act.put,Ac6,Ac7,Ac5,e9];go_wp2_with fail;exact bodyPost_ret (v:=.tuple #[.agg (SC 66 (Da (N 0) (N 1) l ix)),.int .i64 0]) (Gi results16 AW gP9 (by rfl) (by rfl)) rfl ⟨by rw[←hR],hB⟩
theorem Yg(H C R P S E:Nat→Int)(f ix:Int):∃M A B l g n,E7 H C R P S E f ix=.tuple #[.string M,.agg (SC 66 (Da A B l g)),.int .i64 n]:=by
 unfold E7
 split
 ·exact⟨_,_,_,_,_,_,rfl⟩
 ·exact⟨_,_,_,_,_,_,rfl⟩
theorem FG{p:Prop}[Decidable p]{x y:Value}(Φ:Value→Prop)(hx:Φ x)(hy:Φ y):Φ (if p then x else y):=by split<;>assumption
def Rf(v:Value):Prop:=∃X Y k g n,v=.tuple #[.agg (SC 66 (Da X Y k g)),.int .i64 n]
theorem GM(n:Int):Rf (JD n):=⟨_,_,_,_,_,rfl⟩
theorem Yh(O H C A S:Nat→Int)(l:Int)(m:ByteArray):Rf (CJ O H C A S l m):=by
 unfold CJ;exact FG Rf (GM _) (FG Rf (GM _) (FG Rf (GM _) (FG Rf (GM _) (FG Rf (GM _) ⟨_,_,_,_,_,rfl⟩))))
theorem PK(H C O R P A Ea S:Nat→Int)(l f ia:Int)(m:ByteArray)(M1:ByteArray)(S1 R1 S2 R2:Nat→Int)(l1 f1 l2 f2 e1 e2:Int)(w:World)(hE:Env w)(h1:∀u,Env u→Calls prog 13 #[.agg (SC 162 (AY H C O R P l f)),.agg (WA .u8 32 S),.agg (WA .u8 32 Ea),.int .u32 ia] u fun e w'=>e=.returned (.tuple #[.string M1,.agg (SC 66 (Da S1 R1 l1 f1)),.int .i64 e1])∧Below u.heap.size u w')(h1r:∀u,Env u→Calls prog 14 #[.agg (SC 162 (AY H C O R P l f)),.agg (WA .u8 32 S),.agg (WA .u8 32 Ea),.int .u32 ia] u fun e w'=>e=.returned (.tuple #[.string M1,.agg (SC 66 (Da S1 R1 l1 f1)),.int .i64 e1])∧Below u.heap.size u w')(h2:∀u,Env u→Calls prog 15 #[.agg (WA .u8 32 A),.agg (SC 162 (AY H C O R P l f)),.agg (WA .u8 32 S),.string m] u fun e w'=>e=.returned (.tuple #[.agg (SC 66 (Da S2 R2 l2 f2)),.int .i64 e2])∧Below u.heap.size u w')(h2r:∀u,Env u→Calls prog 16 #[.agg (WA .u8 32 A),.agg (SC 162 (AY H C O R P l f)),.agg (WA .u8 32 S),.string m] u fun e w'=>e=.returned (.tuple #[.agg (SC 66 (Da S2 R2 l2 f2)),.int .i64 e2])∧Below u.heap.size u w'):Calls prog 4 #[.agg (SC 162 (AY H C O R P l f)),.agg (SC 65 (Iu A Ea ia)),.agg (SC 33 (JG m S))] w fun e w'=>e=.returned (.bool true)∧Below w.heap.size w w':=by
 have hB:Below w.heap.size w (((w.alloc (.cells (SC 162 (AY H C O R P l f)) 31)).alloc (.cells (SC 65 (Iu A Ea ia)) 25)).alloc (.cells (SC 33 (JG m S)) 39)):=(((Below.refl _ w).alloc (by simp) _).alloc (by simp) _).alloc (by simp;omega) _;have k0:SAt (((w.alloc (.cells (SC 162 (AY H C O R P l f)) 31)).alloc (.cells (SC 65 (Iu A Ea ia)) 25)).alloc (.cells (SC 33 (JG m S)) 39)) w.heap.size 31 162 (AY H C O R P l f):=AA w _ _ _;have k1:SAt (((w.alloc (.cells (SC 162 (AY H C O R P l f)) 31)).alloc (.cells (SC 65 (Iu A Ea ia)) 25)).alloc (.cells (SC 33 (JG m S)) 39)) (w.heap.size+1) 25 65 (Iu A Ea ia):=AG w _ _ _;have k2:SAt (((w.alloc (.cells (SC 162 (AY H C O R P l f)) 31)).alloc (.cells (SC 65 (Iu A Ea ia)) 25)).alloc (.cells (SC 33 (JG m S)) 39)) (w.heap.size+1+1) 39 33 (JG m S):=AP w _ _ _;replace hE:=hE.kept hB;go_enter func4,ntmps4;go_wp2_with fail;refine(QZ _ hE).mono ?_;rintro x v1 ⟨rfl,hb⟩;replace k0:=k0.kept hb;replace k1:=k1.kept hb;replace k2:=k2.kept hb;replace hE:=hE.kept hb;replace hB:=hB.trans (hb.mono hB.size);clear hb;have r0:=Sq k1;have r1:=Sr k1;have ci:=Ss k1;have r2:=Su k2;have cm:=Sv k2
 go_wp2_with (first|(refine Ae rfl (Al rfl Af (by rfl) r0) ?_)|(refine Ae rfl (Al rfl Af (by rfl) r1) ?_)|(refine Ae rfl (Al rfl Af (by rfl) r2) ?_)|(refine Ae rfl (BH rfl C7 k0 (by rfl)) ?_))
 refine(h1 _ hE).mono ?_;rintro x v2 ⟨rfl,hb⟩;replace k0:=k0.kept hb;replace k1:=k1.kept hb;replace k2:=k2.kept hb;replace hE:=hE.kept hb;replace hB:=hB.trans (hb.mono hB.size);clear hb;clear r0 r1 ci r2 cm;have lAk0:=k0.lt;have lAk1:=k1.lt;have lAk2:=k2.lt;have lAB:=hB.size;have lAE:=hE.two
 go_wp2_with (refine Hh ?_;intro v2a gA0 hb;refine Hid.out ?_)
 replace k0:=k0.kept hb;replace k1:=k1.kept hb;replace k2:=k2.kept hb;replace hE:=hE.kept hb;replace hB:=hB.trans (hb.mono hB.size);clear hb;refine Hid.mk ?_
 go_wp2_with (refine Dw AW (B8 _ _ _ _) gA0 (by rfl) (by rfl) ?_;intro v2b gA o6;refine Hid.out ?_)
 replace k0:=k0.only o6 (by omega);replace k1:=k1.only o6 (by omega);replace k2:=k2.only o6 (by omega);replace hE:=hE.only o6 (by omega);replace hB:=hB.trans (o6.below (by omega));clear o6;clear gA0;refine Hid.mk ?_;obtain⟨bA,hbA⟩:∃x,v2.heap.size=x:=⟨_,rfl⟩;rw[hbA] at gA lAk0 lAk1 lAk2 lAB lAE ⊢;clear hbA;have r0:=Sq k1;have r1:=Sr k1;have ci:=Ss k1;have r2:=Su k2;have cm:=Sv k2
 go_wp2_with (first|(refine Ae rfl (Al rfl Af (by rfl) r0) ?_)|(refine Ae rfl (Al rfl Af (by rfl) r1) ?_)|(refine Ae rfl (Al rfl Af (by rfl) r2) ?_)|(refine Ae rfl (BH rfl C7 k0 (by rfl)) ?_))
 refine(h1r _ hE).mono ?_;rintro x v3 ⟨rfl,hb⟩;replace k0:=k0.kept hb;replace k1:=k1.kept hb;replace k2:=k2.kept hb;replace gA:=gA.kept hb;replace hE:=hE.kept hb;replace hB:=hB.trans (hb.mono hB.size);clear hb;clear r0 r1 ci r2 cm;have lBk0:=k0.lt;have lBk1:=k1.lt;have lBk2:=k2.lt;have lBgA:=gA.lt;have lBB:=hB.size;have lBE:=hE.two
 go_wp2_with (refine Hh ?_;intro v3a gB0 hb;refine Hid.out ?_)
 replace k0:=k0.kept hb;replace k1:=k1.kept hb;replace k2:=k2.kept hb;replace gA:=gA.kept hb;replace hE:=hE.kept hb;replace hB:=hB.trans (hb.mono hB.size);clear hb;refine Hid.mk ?_
 go_wp2_with (refine Dw AW (B8 _ _ _ _) gB0 (by rfl) (by rfl) ?_;intro v3b gB o6;refine Hid.out ?_)
 replace k0:=k0.only o6 (by omega);replace k1:=k1.only o6 (by omega);replace k2:=k2.only o6 (by omega);replace gA:=gA.only o6 (by omega);replace hE:=hE.only o6 (by omega);replace hB:=hB.trans (o6.below (by omega));clear o6;clear gB0;refine Hid.mk ?_;obtain⟨bB,hbB⟩:∃x,v3.heap.size=x:=⟨_,rfl⟩;rw[hbB] at gB lBk0 lBk1 lBk2 lBgA lBB lBE ⊢;clear hbB;have r0:=Sq k1;have r1:=Sr k1;have ci:=Ss k1;have r2:=Su k2;have cm:=Sv k2
 go_wp2_with (first|(refine Ae rfl (Al rfl Af (by rfl) r0) ?_)|(refine Ae rfl (Al rfl Af (by rfl) r1) ?_)|(refine Ae rfl (Al rfl Af (by rfl) r2) ?_)|(refine Ae rfl (BH rfl C7 k0 (by rfl)) ?_)|(refine Ae rfl (BH rfl AW gA (by rfl)) ?_)|(refine Ae rfl (BH rfl AW gB (by rfl)) ?_)|(refine Ae rfl (ZL rfl (by rfl) (by rfl)) ?_))
 refine(h2 _ hE).mono ?_;rintro x v4 ⟨rfl,hb⟩;replace k0:=k0.kept hb;replace k1:=k1.kept hb;replace k2:=k2.kept hb;replace gA:=gA.kept hb;replace gB:=gB.kept hb;replace hE:=hE.kept hb;replace hB:=hB.trans (hb.mono hB.size);clear hb;clear r0 r1 ci r2 cm;have lDk0:=k0.lt;have lDk1:=k1.lt;have lDk2:=k2.lt;have lDgA:=gA.lt;have lDgB:=gB.lt;have lDB:=hB.size;have lDE:=hE.two
 go_wp2_with (refine Hh ?_;intro v4a gD0 hb;refine Hid.out ?_)
 replace k0:=k0.kept hb;replace k1:=k1.kept hb;replace k2:=k2.kept hb;replace gA:=gA.kept hb;replace gB:=gB.kept hb;replace hE:=hE.kept hb;replace hB:=hB.trans (hb.mono hB.size);clear hb;refine Hid.mk ?_
 go_wp2_with (refine Dw AW (B8 _ _ _ _) gD0 (by rfl) (by rfl) ?_;intro v4b gD o6;refine Hid.out ?_)
 replace k0:=k0.only o6 (by omega);replace k1:=k1.only o6 (by omega);replace k2:=k2.only o6 (by omega);replace gA:=gA.only o6 (by omega);replace gB:=gB.only o6 (by omega);replace hE:=hE.only o6 (by omega);replace hB:=hB.trans (o6.below (by omega));clear o6;clear gD0;refine Hid.mk ?_;obtain⟨bD,hbD⟩:∃x,v4.heap.size=x:=⟨_,rfl⟩;rw[hbD] at gD lDk0 lDk1 lDk2 lDgA lDgB lDB lDE ⊢;clear hbD;have r0:=Sq k1;have r1:=Sr k1;have ci:=Ss k1;have r2:=Su k2;have cm:=Sv k2
 go_wp2_with (first|(refine Ae rfl (Al rfl Af (by rfl) r0) ?_)|(refine Ae rfl (Al rfl Af (by rfl) r1) ?_)|(refine Ae rfl (Al rfl Af (by rfl) r2) ?_)|(refine Ae rfl (BH rfl C7 k0 (by rfl)) ?_))
 refine(h2r _ hE).mono ?_;rintro x v5 ⟨rfl,hb⟩;replace k0:=k0.kept hb;replace k1:=k1.kept hb;replace k2:=k2.kept hb;replace gA:=gA.kept hb;replace gB:=gB.kept hb;replace gD:=gD.kept hb;replace hE:=hE.kept hb;replace hB:=hB.trans (hb.mono hB.size);clear hb;clear r0 r1 ci r2 cm;have lFk0:=k0.lt;have lFk1:=k1.lt;have lFk2:=k2.lt;have lFgA:=gA.lt;have lFgB:=gB.lt;have lFgD:=gD.lt;have lFB:=hB.size;have lFE:=hE.two
 go_wp2_with (refine Hh ?_;intro v5a gF0 hb;refine Hid.out ?_)
 replace k0:=k0.kept hb;replace k1:=k1.kept hb;replace k2:=k2.kept hb;replace gA:=gA.kept hb;replace gB:=gB.kept hb;replace gD:=gD.kept hb;replace hE:=hE.kept hb;replace hB:=hB.trans (hb.mono hB.size);clear hb;refine Hid.mk ?_
 go_wp2_with (refine Dw AW (B8 _ _ _ _) gF0 (by rfl) (by rfl) ?_;intro v5b gF o6;refine Hid.out ?_)
 replace k0:=k0.only o6 (by omega);replace k1:=k1.only o6 (by omega);replace k2:=k2.only o6 (by omega);replace gA:=gA.only o6 (by omega);replace gB:=gB.only o6 (by omega);replace gD:=gD.only o6 (by omega);replace hE:=hE.only o6 (by omega);replace hB:=hB.trans (o6.below (by omega));clear o6;clear gF0;refine Hid.mk ?_;obtain⟨bF,hbF⟩:∃x,v5.heap.size=x:=⟨_,rfl⟩;rw[hbF] at gF lFk0 lFk1 lFk2 lFgA lFgB lFgD lFB lFE ⊢;clear hbF
 go_wp2_with (first|(refine Ae rfl (BH rfl AW gD (by rfl)) ?_)|(refine Ae rfl (BH rfl AW gF (by rfl)) ?_)|(refine Ae rfl (ZM rfl (by rfl) (by rfl)) ?_))
 go_ret
 exact⟨rfl,hB⟩
theorem Oj(H C O R P A Ea S:Nat→Int)(l f ia:Int)(m:ByteArray)(w:World)(hE:Env w)(hH:Byts 32 H)(hC:Byts 32 C)(hO:Byts 32 O)(hR:Byts 32 R)(hP:Byts 32 P)(hA:Byts 32 A)(hEa:Byts 32 Ea)(hS:Byts 32 S)(hf:W32 f)(hia:W32 ia):Calls prog 4 #[.agg (SC 162 (AY H C O R P l f)),.agg (SC 65 (Iu A Ea ia)),.agg (SC 33 (JG m S))] w fun e w'=>e=.returned (.bool true)∧Below w.heap.size w w':=by
 have c1:=fun u hu=>Rd H C O R P S Ea l f ia u hu hH hC hR hP hS hEa
 have c1r:=fun (u:World) (_:Env u)=>P4 H C O R P S Ea l f ia u hH hC hR hP hS hEa hf hia
 have c2:=fun u hu=>Re A H C O R P S l f m u hu hA hH hC hO hS
 have c2r:=fun (u:World) (_:Env u)=>PJ A H C O R P S l f m u hA hH hC hO hS
 obtain⟨M,X,Y,k,g,n,q1⟩:=Yg H C R P S Ea f ia;obtain⟨X',Y',k',g',n',q2⟩:=Yh A H C O S l m;rw[q1] at c1 c1r;rw[q2] at c2 c2r;exact PK H C O R P A Ea S l f ia m M X Y X' Y' k g k' g' n n' w hE c1 c1r c2 c2r
end Go.Proofs.YthghcjepdhkfdaaGreatDoor
namespace Go.Proofs.YthghcjepdhkfdaaGreatDoor
open Go.ChangeShapes Go.WideShapes Go.ChangeAt Go.WideMaps Go.WideElems Go.RowKit Go.Proofs Go.Lib
end Go.Proofs.YthghcjepdhkfdaaGreatDoor
namespace Go.Proofs.YthghcjepdhkfdaaGreatDoor
open Go.ChangeShapes Go.WideShapes Go.ChangeAt Go.WideMaps Go.WideElems Go.RowKit Go.Proofs
open Tryz
theorem Ee{cs L:List Value}{o m:Nat}(h:(cs.drop o).take m=L)(j:Nat)(hj:j<m):cs[o+j]?=L[j]?:=by
 rw[←h,Adj,if_pos hj,List.getElem?_drop]
theorem DD{H:Type}{enc:TypeId×Value→H}{W:World}{base fuel:Nat}{sp:Nat→Bool}{hd:Bool}{t:TypeId}{n:Nat}{cs:List Value}{x:DataW H×List MemPlace}(ht:Tryz.prog.underlying t=some (.array n 5))(h:DataW.trod enc prog W base sp hd fuel t cs=some x)(hn:cs.length=n):∃s,Byts n s∧cs=A9 .u8 n s∧x.2=[]:=by
 obtain⟨xs,m,_,hx,_,hl,hel⟩:=DataW.trod_array ht h
 have key:∀i,i<n→∃k:Int,cs[i]?=some (.int .u8 k)∧(0≤k∧k<256)∧∃dd,xs[i]?=some (dd,[]):=fun i hi=>by
  have hi':=hel i hi;rw[KC] at hi';have hxs:i<xs.length:=by omega
  rw[AcP hxs] at hi';obtain⟨k,e1,e2,wk⟩:=DataW.trod_int underlying5 hi';have e3:=Ee e1 0 (by omega);have:=bounds_u8 wk;refine⟨k,by simpa using e3,by omega,⟨_,by rw[AcP hxs,e2]⟩⟩
 refine⟨fun i=>match cs[i]? with | some (.int .u8 k)=>k | _=>0,fun i hi=>?_,?_,?_⟩
 ·obtain⟨k,e,hb,_⟩:=key i hi
  simp only[e];exact hb
 ·refine List.ext_getElem? (fun i=>?_)
  by_cases hi:i<n
  ·obtain⟨k,e,hb,_⟩:=key i hi
   rw[Bm .u8 n _ hi];simp only[e]
  ·rw[AcV (by omega),AcV (by rw[A2];omega)]
 ·rw[hx]
  apply List.flatMap_eq_nil_iff.2;intro y hxm;obtain⟨i,hi,rfl⟩:=List.getElem_of_mem hxm;obtain⟨_,_,_,dd,e⟩:=key i (by omega);rw[AcP hi] at e;rw[Option.some.inj e]
theorem Ep:Tryz.prog.cellsOf 22=32:=by kernel_rfl
theorem JH:Tryz.prog.cellsOf 23=1:=by kernel_rfl
theorem UJ:Tryz.prog.cellsOf 9=1:=by kernel_rfl
theorem ZN:Tryz.prog.readableRec 25=true:=by kernel_rfl
theorem ZO:25<Tryz.prog.types.size:=of_decide_eq_true (by kernel_rfl)
theorem UK:Tryz.prog.cellsOf 25=65:=by kernel_rfl
theorem ZP:Tryz.prog.readableRec 39=true:=by kernel_rfl
theorem ZQ:39<Tryz.prog.types.size:=of_decide_eq_true (by kernel_rfl)
theorem UL:Tryz.prog.cellsOf 39=33:=by kernel_rfl
theorem Rg{n:Nat}{cs:Array Value}{V:Nat→Value}(hs:cs.size=n)(h:∀i,i<n→cs.toList[i]?=some (V i)):cs=SC n V:=by
 apply Adh;intro i
 by_cases hi:i<n
 ·rw[←Array.getElem?_toList,h i hi,Of n V i hi]
 ·rw[AcI (by omega),AcI (by rw[CH];omega)]
theorem Ok{cs:List Value}{o:Nat}{v:Value}(h:(cs.drop o).take 1=[v]):cs[o]?=some v:=by
 have:=Ee h 0 (by omega)
 simpa using this
theorem Rh:∃f0 f1 f2,Tryz.prog.underlying 25=some (.struct #[f0,f1,f2])∧f0.type=22∧f0.offset=0∧f1.type=22∧f1.offset=32∧f2.type=23∧f2.offset=64:=⟨_,_,_,underlying25,rfl,rfl,rfl,rfl,rfl,rfl⟩
theorem Ri:∃f0 f1,Tryz.prog.underlying 39=some (.struct #[f0,f1])∧f0.type=9∧f0.offset=0∧f1.type=22∧f1.offset=1:=⟨_,_,underlying39,rfl,rfl,rfl,rfl⟩
section
variable {H:Type} {enc:TypeId×Value→H} {W:World} {base:Nat} {sp:Nat→Bool} {v:Value} {d:DataW H} {p:List MemPlace}
theorem Yi(hv:Value.okWide prog W .any base 25 v)(h:DataW.Trod enc prog W 0 sp true 25 v d p):∃O E ix,Byts 32 O∧Byts 32 E∧W32 ix∧v=.agg (SC 65 (Iu O E ix))∧p=[]:=by
 obtain⟨f0,f1,f2,hu,t0,o0,t1,o1,t2,o2⟩:=Rh
 obtain⟨cs,rfl,hsz,_⟩:∃cs,v=.agg cs∧cs.size=Tryz.prog.cellsOf 25∧Row.okWide prog W .any base 25 cs:=by
  simpa [Value.okWide,hu] using hv
 rw[UK] at hsz;obtain⟨fuel,hf⟩:=h;obtain⟨xs,n,_,hx,_,hlen,hel⟩:=DataW.trod_struct hu hf;have hcs:(Value.agg cs).cells.toList=cs.toList:=rfl;rw[hcs] at hel;have hl65:cs.toList.length=65:=by simpa using hsz
 match xs,hlen with
 | [y0,y1,y2],_ =>
  have e0:=hel 0 f0 rfl;have e1:=hel 1 f1 rfl;have e2:=hel 2 f2 rfl;rw[t0,o0,Ep] at e0;rw[t1,o1,Ep] at e1;rw[t2,o2,JH] at e2;obtain⟨O,a0,b0,c0⟩:=DD underlying22 e0 (by rw[AcT,List.length_drop];omega);obtain⟨E,a1,b1,c1⟩:=DD underlying22 e1 (by rw[AcT,List.length_drop];omega);obtain⟨ix,b2,c2,w2⟩:=DataW.trod_int underlying23 e2;refine⟨O,E,ix,a0,a1,PL w2,?_,?_⟩
  ·congr 1
   refine Rg hsz (fun i hi=>?_);unfold Iu
   by_cases h1:i<32
   ·rw[if_pos h1]
    have:=Ee b0 i h1;rw[Ac9,Bm .u8 32 _ h1] at this;exact this
   ·rw[if_neg h1]
    by_cases h2:i<64
    ·rw[if_pos h2]
     have:=Ee b1 (i-32) (by omega);rw[show 32+(i-32)=i by omega,Bm .u8 32 _ (by omega)] at this;exact this
    ·rw[if_neg h2]
     obtain rfl:i=64:=by omega
     exact Ok b2
  ·simp only[Prod.mk.injEq] at hx
   rw[hx.2];simp[c0,c1,c2]
theorem Yj(hv:Value.okWide prog W .any base 39 v)(h:DataW.Trod enc prog W 0 sp true 39 v d p):∃m S,Byts 32 S∧v=.agg (SC 33 (JG m S))∧p=[]:=by
 obtain⟨f0,f1,hu,t0,o0,t1,o1⟩:=Ri
 obtain⟨cs,rfl,hsz,_⟩:∃cs,v=.agg cs∧cs.size=Tryz.prog.cellsOf 39∧Row.okWide prog W .any base 39 cs:=by
  simpa [Value.okWide,hu] using hv
 rw[UL] at hsz;obtain⟨fuel,hf⟩:=h;obtain⟨xs,n,_,hx,_,hlen,hel⟩:=DataW.trod_struct hu hf;have hcs:(Value.agg cs).cells.toList=cs.toList:=rfl;rw[hcs] at hel;have hl33:cs.toList.length=33:=by simpa using hsz
 match xs,hlen with
 | [y0,y1],_ =>
  have e0:=hel 0 f0 rfl;have e1:=hel 1 f1 rfl;rw[t0,o0,UJ] at e0;rw[t1,o1,Ep] at e1;obtain⟨m,b0,c0,_⟩:=DataW.trod_string underlying9 e0;obtain⟨S,a1,b1,c1⟩:=DD underlying22 e1 (by rw[AcT,List.length_drop];omega);refine⟨m,S,a1,?_,?_⟩
  ·congr 1
   refine Rg hsz (fun i hi=>?_);unfold JG
   by_cases h1:i<1
   ·rw[if_pos h1]
    obtain rfl:i=0:=by omega
    exact Ok b0
   ·rw[if_neg h1]
    have:=Ee b1 (i-1) (by omega);rw[show 1+(i-1)=i by omega,Bm .u8 32 _ (by omega)] at this;exact this
  ·simp only[Prod.mk.injEq] at hx
   rw[hx.2];simp[c0,c1]
end
end Go.Proofs.YthghcjepdhkfdaaGreatDoor
namespace Go.Proofs.YthghcjepdhkfdaaGreatDoor
open Go.RowKit Go.Proofs
end Go.Proofs.YthghcjepdhkfdaaGreatDoor
namespace Go.Proofs.YthghcjepdhkfdaaGreatDoor
open Go.ChangeShapes Go.WideShapes Go.ChangeAt Go.WideMaps Go.WideElems Go.RowKit Go.Proofs
open Tryz
theorem ZR:Tryz.prog.readableRec 31=true:=by kernel_rfl
theorem ZS:31<Tryz.prog.types.size:=of_decide_eq_true (by kernel_rfl)
theorem UM:Tryz.prog.cellsOf 31=162:=by kernel_rfl
theorem Rj:∃f0 f1 f2 f3 f4 f5 f6,Tryz.prog.underlying 31=some (.struct #[f0,f1,f2,f3,f4,f5,f6])∧(f0.type=22∧f0.offset=0)∧(f1.type=22∧f1.offset=32)∧(f2.type=22∧f2.offset=64)∧(f3.type=22∧f3.offset=96)∧(f4.type=22∧f4.offset=128)∧(f5.type=23∧f5.offset=160)∧(f6.type=23∧f6.offset=161):=⟨_,_,_,_,_,_,_,underlying31,⟨rfl,rfl⟩,⟨rfl,rfl⟩,⟨rfl,rfl⟩,⟨rfl,rfl⟩,⟨rfl,rfl⟩,⟨rfl,rfl⟩,⟨rfl,rfl⟩⟩
section
variable {H:Type} {enc:TypeId×Value→H} {W:World} {base:Nat} {sp:Nat→Bool} {v:Value} {d:DataW H} {p:List MemPlace}
theorem Yk(hv:Value.okWide prog W .any base 31 v)(h:DataW.Trod enc prog W 0 sp true 31 v d p):∃X0 X1 X2 X3 X4 l f,Byts 32 X0∧Byts 32 X1∧Byts 32 X2∧Byts 32 X3∧Byts 32 X4∧W32 l∧W32 f∧v=.agg (SC 162 (AY X0 X1 X2 X3 X4 l f))∧p=[]:=by
 obtain⟨f0,f1,f2,f3,f4,f5,f6,hu,⟨t0,o0⟩,⟨t1,o1⟩,⟨t2,o2⟩,⟨t3,o3⟩,⟨t4,o4⟩,⟨t5,o5⟩,⟨t6,o6⟩⟩:=Rj
 obtain⟨cs,rfl,hsz,_⟩:∃cs,v=.agg cs∧cs.size=Tryz.prog.cellsOf 31∧Row.okWide prog W .any base 31 cs:=by
  simpa [Value.okWide,hu] using hv
 rw[UM] at hsz;obtain⟨fuel,hf⟩:=h;obtain⟨xs,n,_,hx,_,hlen,hel⟩:=DataW.trod_struct hu hf;have hcs:(Value.agg cs).cells.toList=cs.toList:=rfl;rw[hcs] at hel;have hl:cs.toList.length=162:=by simpa using hsz
 match xs,hlen with
 | [y0,y1,y2,y3,y4,y5,y6],_ =>
  have e0:=hel 0 f0 rfl;rw[t0,o0,Ep] at e0;obtain⟨X0,a0,b0,c0⟩:=DD underlying22 e0 (by rw[AcT,List.length_drop];omega);have e1:=hel 1 f1 rfl;rw[t1,o1,Ep] at e1;obtain⟨X1,a1,b1,c1⟩:=DD underlying22 e1 (by rw[AcT,List.length_drop];omega);have e2:=hel 2 f2 rfl;rw[t2,o2,Ep] at e2;obtain⟨X2,a2,b2,c2⟩:=DD underlying22 e2 (by rw[AcT,List.length_drop];omega);have e3:=hel 3 f3 rfl;rw[t3,o3,Ep] at e3;obtain⟨X3,a3,b3,c3⟩:=DD underlying22 e3 (by rw[AcT,List.length_drop];omega);have e4:=hel 4 f4 rfl;rw[t4,o4,Ep] at e4;obtain⟨X4,a4,b4,c4⟩:=DD underlying22 e4 (by rw[AcT,List.length_drop];omega);have e5:=hel 5 f5 rfl;rw[t5,o5,JH] at e5;obtain⟨l,b5,c5,w5⟩:=DataW.trod_int underlying23 e5;have e6:=hel 6 f6 rfl;rw[t6,o6,JH] at e6;obtain⟨f,b6,c6,w6⟩:=DataW.trod_int underlying23 e6;refine⟨X0,X1,X2,X3,X4,l,f,a0,a1,a2,a3,a4,PL w5,PL w6,?_,?_⟩
  ·congr 1
   refine Rg hsz (fun i hi=>?_);unfold AY
   by_cases h0:i<32
   ·rw[if_pos h0]
    have:=Ee b0 i h0;rw[Ac9,Bm .u8 32 _ h0] at this;exact this
   rw[if_neg h0]
   by_cases h1:i<64
   ·rw[if_pos h1]
    have:=Ee b1 (i-32) (by omega);rw[show 32+(i-32)=i by omega,Bm .u8 32 _ (by omega)] at this;exact this
   rw[if_neg h1]
   by_cases h2:i<96
   ·rw[if_pos h2]
    have:=Ee b2 (i-64) (by omega);rw[show 64+(i-64)=i by omega,Bm .u8 32 _ (by omega)] at this;exact this
   rw[if_neg h2]
   by_cases h3:i<128
   ·rw[if_pos h3]
    have:=Ee b3 (i-96) (by omega);rw[show 96+(i-96)=i by omega,Bm .u8 32 _ (by omega)] at this;exact this
   rw[if_neg h3]
   by_cases h4:i<160
   ·rw[if_pos h4]
    have:=Ee b4 (i-128) (by omega);rw[show 128+(i-128)=i by omega,Bm .u8 32 _ (by omega)] at this;exact this
   rw[if_neg h4]
   by_cases h5:i<161
   ·rw[if_pos h5]
    obtain rfl:i=160:=by omega
    exact Ok b5
   ·rw[if_neg h5]
    obtain rfl:i=161:=by omega
    exact Ok b6
  ·simp only[Prod.mk.injEq] at hx
   rw[hx.2];simp[c0,c1,c2,c3,c4,c5,c6]
end
end Go.Proofs.YthghcjepdhkfdaaGreatDoor
