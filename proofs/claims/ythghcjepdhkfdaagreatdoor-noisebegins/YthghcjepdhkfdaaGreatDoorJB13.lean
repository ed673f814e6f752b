/-
  Own text. A struct of arrays of bytes and numbers is one with itself.
-/
import Derived.Test.YthghcjepdhkfdaaGreatDoorJB10
import Derived.Test.YthghcjepdhkfdaaGreatDoorJB11
import Derived.Test.YthghcjepdhkfdaaGreatDoorJB12
import Derived.Test.YthghcjepdhkfdaaGreatDoorJB1
import Derived.Test.YthghcjepdhkfdaaGreatDoorRows
import Derived.SliceStrings
import Derived.OpenShut
set_option maxHeartbeats 16000000
set_option maxRecDepth 100000
open Array renaming ext_getElem?→AcK,getElem?_eq_getElem→Acx,getElem?_eq_none→Acv
open List renaming getElem?_eq_getElem→Ac1,getElem?_eq_none→Ac7,getElem?_take→AcM,length_take→AcF,setIfInBounds_toArray→Aci,set_cons_succ→Ach,set_cons_zero→Acj
open Nat renaming add_sub_cancel_left→Ac0,le_refl→Acg,le_trans→Acp,zero_add→Acl
namespace Go.Proofs.YthghcjepdhkfdaaGreatDoor
open Go.RowKit Go.Proofs
open Tryz
theorem Fa {f:Field} {fs:List Field} {xs:Array Value} {d:Nat} {w:World} {v:Value} (hn:f.name≠ "_") (hp:(part f.type xs f.offset).run prog w=.ok v w) (he:(Op.equalIn d f.type v v).run prog w=.ok true w) (hr:(Op.eqFields d xs xs fs).run prog w=.ok true w):(Op.eqFields d xs xs (f::fs)).run prog w=.ok true w:=by
 simp only[Op.eqFields,if_pos hn,Sem.run_bind,hp,Result.andThen_ok,he,Bool.not_true,Bool.false_eq_true,if_false,hr]
theorem AbN(w:World):(isAgg 22).run prog w=.ok true w:=by kernel_rfl
theorem AaP(w:World):(sizeOf 22).run prog w=.ok 32 w:=by kernel_rfl
theorem AaQ(w:World):(isAgg 23).run prog w=.ok false w:=by kernel_rfl
theorem AaR{n o:Nat}{V:Nat→Value}{s:Nat→Int}(ho:o+32≤n)(hv:∀j,j<32→V (o+j)=.int .u8 (s j)):(SC n V).extract o (o+32)=WA .u8 32 s:=by
 apply AcK;intro i
 by_cases hi:i<32
 ·rw[Array.getElem?_extract_of_lt (by rw[CG];omega),←Acx,Oi n V _ (by omega),hv i hi,Ei _ _ _ _ hi]
 ·rw[Acv (by rw[Array.size_extract,CG];omega),Acv (by rw[A5];omega)]
theorem GS{n o:Nat}{V:Nat→Value}{s:Nat→Int}{t:TypeId}(ht:t=22)(ho:o+32≤n)(hv:∀j,j<32→V (o+j)=.int .u8 (s j))(w:World):(part t (SC n V) o).run prog w=.ok (.agg (WA .u8 32 s)) w:=by
 subst ht;unfold part;simp only[Sem.run_bind,AbN,Result.andThen_ok,if_true,AaP,Sem.run_pure,AaR ho hv]
theorem PG{n o:Nat}{V:Nat→Value}{k:Int}{t:TypeId}(ht:t=23)(ho:o<n)(hv:V o=.int .u32 k)(w:World):(part t (SC n V) o).run prog w=.ok (.int .u32 k) w:=by
 subst ht;unfold part;simp only[Sem.run_bind,AaQ,Result.andThen_ok,Bool.false_eq_true,if_false,Oi n V o ho,hv,Sem.run_pure]
theorem XO(k:Int)(d:Nat)(w:World):(Op.equalIn (d+1) 23 (.int .u32 k) (.int .u32 k)).run prog w=.ok true w:=by
 rw[run_equalIn_int w d 23 .u32 .u32 k k underlying23,beq_self_eq_true]
theorem Me(s:Nat→Int)(d:Nat)(w:World):(Op.equalIn (d+1+1) 22 (.agg (WA .u8 32 s)) (.agg (WA .u8 32 s))).run prog w=.ok true w:=Oq underlying22 s d w
theorem XP:∃f0 f1 f2 f3 f4 f5 f6:Field,(Tryz.prog.fieldsOf 31).toList=[f0,f1,f2,f3,f4,f5,f6]∧(f0.name≠ "_"∧f0.type=22∧f0.offset=0)∧(f1.name≠ "_"∧f1.type=22∧f1.offset=32)∧(f2.name≠ "_"∧f2.type=22∧f2.offset=64)∧(f3.name≠ "_"∧f3.type=22∧f3.offset=96)∧(f4.name≠ "_"∧f4.type=22∧f4.offset=128)∧(f5.name≠ "_"∧f5.type=23∧f5.offset=160)∧(f6.name≠ "_"∧f6.type=23∧f6.offset=161):=by
 unfold Program.fieldsOf;rw[underlying31];exact⟨_,_,_,_,_,_,_,rfl,⟨by decide,rfl,rfl⟩,⟨by decide,rfl,rfl⟩,⟨by decide,rfl,rfl⟩,⟨by decide,rfl,rfl⟩,⟨by decide,rfl,rfl⟩,⟨by decide,rfl,rfl⟩,⟨by decide,rfl,rfl⟩⟩
theorem Np(H C O R P:Nat→Int)(l f:Int)(w:World):(Op.equalIn 10000 31 (.agg (SC 162 (Cl H C O R P l f))) (.agg (SC 162 (Cl H C O R P l f)))).run prog w=.ok true w:=by
 rw[show (10000:Nat)=9997+1+1+1 from rfl,run_equalIn_struct w (9997+1+1) 31 _ _ (by kernel_rfl) (by kernel_rfl)];obtain⟨f0,f1,f2,f3,f4,f5,f6,hl,⟨n0,t0,o0⟩,⟨n1,t1,o1⟩,⟨n2,t2,o2⟩,⟨n3,t3,o3⟩,⟨n4,t4,o4⟩,⟨n5,t5,o5⟩,⟨n6,t6,o6⟩⟩:=XP;rw[hl];refine Fa n0 (v:=.agg (WA .u8 32 H)) (by rw[o0];exact GS t0 (by omega) (fun j hj=>by unfold Cl;rw[Acl,if_pos hj]) w) (by rw[t0];exact Me _ _ w) ?_;refine Fa n1 (v:=.agg (WA .u8 32 C)) (by rw[o1];exact GS t1 (by omega) (fun j hj=>by unfold Cl;rw[if_neg (by omega),if_pos (by omega),Ac0]) w) (by rw[t1];exact Me _ _ w) ?_;refine Fa n2 (v:=.agg (WA .u8 32 O)) (by rw[o2];exact GS t2 (by omega) (fun j hj=>by unfold Cl;rw[if_neg (by omega),if_neg (by omega),if_pos (by omega),Ac0]) w) (by rw[t2];exact Me _ _ w) ?_;refine Fa n3 (v:=.agg (WA .u8 32 R)) (by rw[o3];exact GS t3 (by omega) (fun j hj=>by unfold Cl;rw[if_neg (by omega),if_neg (by omega),if_neg (by omega),if_pos (by omega),Ac0]) w) (by rw[t3];exact Me _ _ w) ?_;refine Fa n4 (v:=.agg (WA .u8 32 P)) (by rw[o4];exact GS t4 (by omega) (fun j hj=>by unfold Cl;rw[if_neg (by omega),if_neg (by omega),if_neg (by omega),if_neg (by omega),if_pos (by omega),Ac0]) w) (by rw[t4];exact Me _ _ w) ?_;refine Fa n5 (v:=.int .u32 l) (by rw[o5];exact PG t5 (by omega) rfl w) (by rw[t5];exact XO _ _ w) ?_;refine Fa n6 (v:=.int .u32 f) (by rw[o6];exact PG t6 (by omega) rfl w) (by rw[t6];exact XO _ _ w) ?_;rfl
theorem AbO:Tryz.prog.eqGuardType Tryz.prog.depth 31=false:=by kernel_rfl
theorem Z9{a:Act}{o:Oper}{w:World}{x y:Operand}{u:TypeId}(ho:o.op=.binOp .neq 31 x y u){H C O R P:Nat→Int}{l f:Int}(hx:a.eval x=.agg (SC 162 (Cl H C O R P l f)))(hy:a.eval y=.agg (SC 162 (Cl H C O R P l f))):(execOp a.eval o).run prog w=.ok (.value (.bool false)) w:=by
 unfold execOp;simp only[ho,hx,hy,Sem.run_bind,run_eqGuard_agg w .neq 31 x y _ _ AbO,Result.andThen_ok,run_neq_struct,Np,Sem.run_pure];rfl
theorem ZA{a:Act}{o:Oper}{w:World}{x y:Operand}{u:TypeId}(ho:o.op=.binOp .eql 31 x y u){H C O R P:Nat→Int}{l f:Int}(hx:a.eval x=.agg (SC 162 (Cl H C O R P l f)))(hy:a.eval y=.agg (SC 162 (Cl H C O R P l f))):(execOp a.eval o).run prog w=.ok (.value (.bool true)) w:=by
 unfold execOp;simp only[ho,hx,hy,Sem.run_bind,run_eqGuard_agg w .eql 31 x y _ _ AbO,Result.andThen_ok,run_eql_struct,Np,Sem.run_pure]
theorem Km(args:Array Value)(w:World):(callFunc 48 args).run prog w=.ok (.enter 48 args) w:=by kernel_rfl
theorem Hs(args:Array Value)(w:World):(callFunc 47 args).run prog w=.ok (.enter 47 args) w:=by kernel_rfl
theorem Jm(args:Array Value)(w:World):(callFunc 42 args).run prog w=.ok (.enter 42 args) w:=by kernel_rfl
theorem U6(args:Array Value)(w:World):(callFunc 49 args).run prog w=.ok (.enter 49 args) w:=by kernel_rfl
theorem Rf{T:Nat→Prop}{w w':World}(h:Below w.heap.size w w'):Touch T w w':=⟨h.os,h.tape,h.output,h.size,fun k hk _=>h.block k hk⟩
theorem Iw{u v w:World}{b c:Nat}(h:Below u.heap.size u v)(ht:Touch (fun x=>x=b∨x=c) v w)(hb:u.heap.size≤b∧u.heap.size≤c):Below u.heap.size u w:=
 ⟨ht.os.trans h.os,ht.tape.trans h.tape,ht.output.trans h.output,Acp h.size ht.size,fun k hk=>(ht.block k (by have:=h.size;omega) (by omega)).trans (h.block k hk)⟩
theorem Fb{v0:World}{b d:Nat}{c e:Cont}(w w':World)(h:Touch (fun x=>x=b∨x=d) v0 w)(ht:Touch (fun k=>v0.heap.size≤k∨k∈[(b,c),(d,e)].map (·.1)) w w'):Touch (fun x=>x=b∨x=d) v0 w':=
 ⟨ht.os.trans h.os,ht.tape.trans h.tape,ht.output.trans h.output,Acp h.size ht.size,fun k hk hn=>(ht.block k (by have:=h.size;omega) (fun e=>e.elim (fun e=>by omega) (fun e=>hn (by simpa using e)))).trans (h.block k hk hn)⟩
theorem Nq(key nonce:Nat→Int)(box beside:ByteArray)(h:(Bc key nonce box beside).2=0):(Bc key nonce box beside).1.size=box.size-16:=by
 unfold Bc at h ⊢
 split at h
 ·rename_i c
  rw[if_pos c];show (Bt key nonce (box.extract 0 (box.size-16))).size=_;rw[D8,ByteArray.size_extract];omega
 ·exact absurd h (by decide)
theorem PH(O H0 C0:Nat→Int)(m:ByteArray)(w:World)(hO:Byts 32 O)(hH0:Byts 32 H0)(hC0:Byts 32 C0)(hBeg:∀u,Calls prog 37 #[.agg (WA .u8 32 (BT O))] u fun e w'=>∃b,u.heap.size≤b∧e=.returned (.pointer (some ⟨b,0,none⟩))∧StAt w' b H0 C0∧Below u.heap.size u w'):Calls prog 12 #[.agg (WA .u8 32 O),.string m] w fun e w'=>e=.returned (BM O H0 C0 m)∧Below w.heap.size w w':=by
 obtain⟨R,hR⟩:∃R,BM O H0 C0 m=R:=⟨_,rfl⟩;rw[hR];unfold BM at hR;have g0:ArrAt ((((w.alloc (.cells (WA .u8 32 O) 22)).alloc (.cells zeroCells31 31)).alloc (.cells (WA .u8 12 fun _=>0) 26)).alloc (.cells (WA .u8 12 fun _=>0) 26)) w.heap.size .u8 22 32 O:=Iz w _ _ _ _;have gH:SAt ((((w.alloc (.cells (WA .u8 32 O) 22)).alloc (.cells zeroCells31 31)).alloc (.cells (WA .u8 12 fun _=>0) 26)).alloc (.cells (WA .u8 12 fun _=>0) 26)) (w.heap.size+1) 31 162 Bk:=by unfold SAt;rw[←BU];exact I0 w _ _ _ _
 have gT:ArrAt ((((w.alloc (.cells (WA .u8 32 O) 22)).alloc (.cells zeroCells31 31)).alloc (.cells (WA .u8 12 fun _=>0) 26)).alloc (.cells (WA .u8 12 fun _=>0) 26)) (w.heap.size+1+1) .u8 26 12 (fun _=>0):=I1 w _ _ _ _;have gS:ArrAt ((((w.alloc (.cells (WA .u8 32 O) 22)).alloc (.cells zeroCells31 31)).alloc (.cells (WA .u8 12 fun _=>0) 26)).alloc (.cells (WA .u8 12 fun _=>0) 26)) (w.heap.size+1+1+1) .u8 26 12 (fun _=>0):=GU w _ _ _ _;have hB:Below w.heap.size w ((((w.alloc (.cells (WA .u8 32 O) 22)).alloc (.cells zeroCells31 31)).alloc (.cells (WA .u8 12 fun _=>0) 26)).alloc (.cells (WA .u8 12 fun _=>0) 26)):=((((Below.refl _ w).alloc (by simp) _).alloc (by simp) _).alloc (by simp;omega) _).alloc (by simp;omega) _;go_enter func12,ntmps12
 by_cases h1:m.size=148
 case neg =>
  have h1I:¬(m.size:Int)=148:=by omega
  rw[if_pos h1] at hR;go_wp2_with fail;refine AJ (fun u=>ArrAt u w.heap.size .u8 22 32 O∧SAt u (w.heap.size+1) 31 162 Bk∧ArrAt u (w.heap.size+1+1) .u8 26 12 (fun _=>0)∧ArrAt u (w.heap.size+1+1+1) .u8 26 12 (fun _=>0)∧Below w.heap.size w u) ⟨g0,gH,gT,gS,hB⟩ ?_;clear g0 gH gT gS hB;rintro v1 ⟨g0,gH,gT,gS,hB⟩;have HGS:Hid (∀u,Touch (fun x=>x=(w.heap.size+1)∨x=(w.heap.size+1+1)) v1 u→ArrAt u (w.heap.size+1+1+1) .u8 26 12 (fun _=>0)):=Hid.mk (fun u hu=>gS.block (hu.block _ gS.lt (by omega)));refine Ai (Touch (fun x=>x=(w.heap.size+1)∨x=(w.heap.size+1+1)) v1) v1.heap.size
    [((w.heap.size+1),once (SC 162 Bk) 31 2 (SC 162 Bk)),((w.heap.size+1+1),once (WA .u8 12 (fun _=>0)) 26 3 (WA .u8 12 (fun _=>0)))]
    [kv (.agg (SC 162 Bk)),kv (.agg (WA .u8 12 (fun _=>0))),.val fun _=>True,.val fun _=>True,kv (.int .i64 10)]
    [.none,.none,.base 0 1,.base 1 1]
    [some 18,some 19,none,none,some 6]
    [(7,.pointer (some ⟨(w.heap.size+1+1+1),0,none⟩)),(4,.pointer (some ⟨(w.heap.size+1),0,none⟩)),(5,.pointer (some ⟨(w.heap.size+1+1),0,none⟩))]
    [[],[],[.slot 0,.base 0 0],[.slot 1,.base 1 0],[]]
    [.base 0 1,.base 1 1,.slot 4] [18,19,6]
    rfl (by kernel_rfl) ⟨rfl,rfl,rfl,trivial⟩ (Rf (Below.refl _ v1).drew) (Acg _) ⟨⟨gH.lt,Al gH⟩,⟨gT.lt,Al gT⟩,trivial⟩ ⟨⟨(show ((w.heap.size+1):Nat)≠(w.heap.size+1+1) from by omega),trivial⟩,trivial,trivial⟩ Fb
    ⟨
     sL fun _ _=>sV (DA rfl),
     (fun _ _ ww _ hS _ fr _=>sV (AA rfl Ax (HGS.out ww hS) fr.1)),
     sL fun f k=>.inl ⟨trivial,fun K hK=>CH rfl AV (Bu _ _ _ _ _ _ _) f.2.1 k.1 (Ak k.2.1) (fun w2 hg ho=>hK _ _ ⟨⟨Ag ho,Al hg⟩,trivial⟩)⟩,
     sL fun f k=>.inl ⟨trivial,fun K hK=>Bs rfl Ax f.2.2.1 k.1 (Ak k.2.1) (fun w2 hg ho=>hK _ _ ⟨⟨Ag ho,Al hg⟩,trivial⟩)⟩,
     sL fun _ _=>sV (Av (v:=.int .i64 10) rfl rfl),
     trivial⟩ ?_
  intro vs own vZ hT9 hsz kn inj;clear inj hsz HGS;obtain⟨k0,k1,e6,-⟩:=kn;change vs 6=_ at e6;have gH9:SAt vZ (w.heap.size+1) 31 162 Bk:=Ak k0;have gT9:ArrAt vZ (w.heap.size+1+1) .u8 26 12 (fun _=>0):=Ak k1;simp only[Am,Act.put,Aci,Acj,Ach,e6];replace hB:=Iw hB hT9 (by omega);go_wp2_with fail;exact bodyPost_ret (v:=Gf 10) (Et results12 AV Ax gH9 gT9 (by rfl) (by rfl) (by rfl)) rfl ⟨by rw[←hR],hB⟩
 have h1I:(m.size:Int)=148:=by omega
 rw[if_neg (not_not_intro h1)] at hR;have HM4:Hid (4≤m.size):=Hid.mk (by omega)
 by_cases h2:m.extract 0 4=⟨#[1,0,0,0]⟩
 case neg =>
  have HN:=Hid.mk h2;rw[if_pos h2] at hR
  go_wp2_with (first|(refine Ae rfl (Dp rfl (by rfl) (by rfl) (Sv m 4 _ HM4.out)) ?_)|(refine Ae rfl (FH rfl (by rfl) (by rfl) HN.out) ?_))
  refine AJ (fun u=>ArrAt u w.heap.size .u8 22 32 O∧SAt u (w.heap.size+1) 31 162 Bk∧ArrAt u (w.heap.size+1+1) .u8 26 12 (fun _=>0)∧ArrAt u (w.heap.size+1+1+1) .u8 26 12 (fun _=>0)∧Below w.heap.size w u) ⟨g0,gH,gT,gS,hB⟩ ?_;clear g0 gH gT gS hB;rintro v1 ⟨g0,gH,gT,gS,hB⟩;have HGS:Hid (∀u,Touch (fun x=>x=(w.heap.size+1)∨x=(w.heap.size+1+1)) v1 u→ArrAt u (w.heap.size+1+1+1) .u8 26 12 (fun _=>0)):=Hid.mk (fun u hu=>gS.block (hu.block _ gS.lt (by omega)));refine Ai (Touch (fun x=>x=(w.heap.size+1)∨x=(w.heap.size+1+1)) v1) v1.heap.size
    [((w.heap.size+1),once (SC 162 Bk) 31 2 (SC 162 Bk)),((w.heap.size+1+1),once (WA .u8 12 (fun _=>0)) 26 3 (WA .u8 12 (fun _=>0)))]
    [kv (.agg (SC 162 Bk)),kv (.agg (WA .u8 12 (fun _=>0))),.val fun _=>True,.val fun _=>True,kv (.int .i64 11)]
    [.none,.none,.base 0 1,.base 1 1]
    [some 23,some 24,none,none,some 6]
    [(7,.pointer (some ⟨(w.heap.size+1+1+1),0,none⟩)),(4,.pointer (some ⟨(w.heap.size+1),0,none⟩)),(5,.pointer (some ⟨(w.heap.size+1+1),0,none⟩))]
    [[],[],[.slot 0,.base 0 0],[.slot 1,.base 1 0],[]]
    [.base 0 1,.base 1 1,.slot 4] [23,24,6]
    rfl (by kernel_rfl) ⟨rfl,rfl,rfl,trivial⟩ (Rf (Below.refl _ v1).drew) (Acg _) ⟨⟨gH.lt,Al gH⟩,⟨gT.lt,Al gT⟩,trivial⟩ ⟨⟨(show ((w.heap.size+1):Nat)≠(w.heap.size+1+1) from by omega),trivial⟩,trivial,trivial⟩ Fb
    ⟨
     sL fun _ _=>sV (DA rfl),
     (fun _ _ ww _ hS _ fr _=>sV (AA rfl Ax (HGS.out ww hS) fr.1)),
     sL fun f k=>.inl ⟨trivial,fun K hK=>CH rfl AV (Bu _ _ _ _ _ _ _) f.2.1 k.1 (Ak k.2.1) (fun w2 hg ho=>hK _ _ ⟨⟨Ag ho,Al hg⟩,trivial⟩)⟩,
     sL fun f k=>.inl ⟨trivial,fun K hK=>Bs rfl Ax f.2.2.1 k.1 (Ak k.2.1) (fun w2 hg ho=>hK _ _ ⟨⟨Ag ho,Al hg⟩,trivial⟩)⟩,
     sL fun _ _=>sV (Av (v:=.int .i64 11) rfl rfl),
     trivial⟩ ?_
  intro vs own vZ hT9 hsz kn inj;clear inj hsz HGS;obtain⟨k0,k1,e6,-⟩:=kn;change vs 6=_ at e6;have gH9:SAt vZ (w.heap.size+1) 31 162 Bk:=Ak k0;have gT9:ArrAt vZ (w.heap.size+1+1) .u8 26 12 (fun _=>0):=Ak k1;simp only[Am,Act.put,Aci,Acj,Ach,e6];replace hB:=Iw hB hT9 (by omega);go_wp2_with fail;exact bodyPost_ret (v:=Gf 11) (Et results12 AV Ax gH9 gT9 (by rfl) (by rfl) (by rfl)) rfl ⟨by rw[←hR],hB⟩
 rw[if_neg (not_not_intro h2)] at hR;have HN:=Hid.mk h2;have s1':(m.extract 8 40).size=32:=by rw[ByteArray.size_extract];omega
 have s2':(m.extract 40 88).size=48:=by rw[ByteArray.size_extract];omega
 have s3':(m.extract 88 116).size=28:=by rw[ByteArray.size_extract];omega
 have s4':(m.extract 4 8).size=4:=by rw[ByteArray.size_extract];omega
 have hEb:Byts 32 (acE m):=fun j _=>Bn _ j
 have hKb:Byts 32 (acK O H0 C0 m):=fun j _=>Bn _ j
 have HS1:Hid (∀u,(Instr.sliceAt 9 (.string m) (some (.int .i64 8)) (some (.int .i64 40)) none).run prog u=.ok (.string (m.extract 8 40)) u):=Hid.mk (fun u=>JR m 8 40 u (by omega) (by omega));have HS2:Hid (∀u,(Instr.sliceAt 9 (.string m) (some (.int .i64 40)) (some (.int .i64 88)) none).run prog u=.ok (.string (m.extract 40 88)) u):=Hid.mk (fun u=>JR m 40 88 u (by omega) (by omega));have HS3:Hid (∀u,(Instr.sliceAt 9 (.string m) (some (.int .i64 88)) (some (.int .i64 116)) none).run prog u=.ok (.string (m.extract 88 116)) u):=Hid.mk (fun u=>JR m 88 116 u (by omega) (by omega));have HS4:Hid (∀u,(Instr.sliceAt 9 (.string m) (some (.int .i64 4)) (some (.int .i64 8)) none).run prog u=.ok (.string (m.extract 4 8)) u):=Hid.mk (fun u=>JR m 4 8 u (by omega) (by omega));have HKY1:Hid (∀u,Calls prog 47 #[.string (m.extract 8 40)] u fun e w'=>e=.returned (.agg (WA .u8 32 (acE m)))∧Below u.heap.size u w'):=Hid.mk (fun u=>OT _ u s1');have HKY2:Hid ((acP O H0 C0 m).2=0→∀u,Calls prog 47 #[.string (acP O H0 C0 m).1] u fun e w'=>e=.returned (.agg (WA .u8 32 (acK O H0 C0 m)))∧Below u.heap.size u w'):=Hid.mk (fun e u=>OT _ u (by have h:(acP O H0 C0 m).1.size=(m.extract 40 88).size-16:=Nq _ _ _ _ e;rw[h,s2']));have HSH1:=Hid.mk (fun u=>Fi O (acE m) u hO hEb);have HSH2:=Hid.mk (fun u=>Fi O (acK O H0 C0 m) u hO hKb);have HNM:=Hid.mk (fun u=>Xh (m.extract 4 8) u s4');have hMX:∀(b:Nat) (u:World),StAt u b H0 (chn C0 (m.extract 8 40) 0)→Calls prog 41 #[.pointer (some ⟨b,0,none⟩),.string (m.extract 8 40)] u fun e w'=>e=.returned (.tuple #[])∧StAt w' b (Jh H0 m) (chn C0 (m.extract 8 40) 0)∧Touch (fun x=>x=b) u w':=fun b u g=>F0 b H0 _ _ u g hH0 (by omega)
 have hC1:∀(b:Nat) (u:World),StAt u b (H0) (C0)→Calls prog 40 #[.pointer (some ⟨b,0,none⟩),.int .i64 1,.string (m.extract 8 40)] u fun e w'=>∃gl cl,e=.returned (.slice (some ⟨gl,0,none⟩) 1 cl)∧u.heap.size≤gl∧RowsAt w' gl 1 0 (chn C0 (m.extract 8 40))∧StAt w' b (H0) (chn C0 (m.extract 8 40) 0)∧Touch (fun x=>x=b) u w':=fun b u g=>D9 b 1 H0 C0 _ u g hC0 (by omega) (by omega) (by omega)
 have hC2:∀(b:Nat) (u:World),StAt u b (Jh H0 m) (chn C0 (m.extract 8 40) 0)→Calls prog 40 #[.pointer (some ⟨b,0,none⟩),.int .i64 2,.string (mkS 32 (shF O (acE m)))] u fun e w'=>∃gl cl,e=.returned (.slice (some ⟨gl,0,none⟩) 2 cl)∧u.heap.size≤gl∧RowsAt w' gl 2 0 (acL O C0 m)∧StAt w' b (Jh H0 m) (acL O C0 m 0)∧Touch (fun x=>x=b) u w':=fun b u g=>D9 b 2 _ _ _ u g (Dr _ _ 0 32) (by rw[Ar];omega) (by omega) (by omega)
 have hC3:∀(b:Nat) (u:World),StAt u b (Mu H0 m) (acL O C0 m 0)→Calls prog 40 #[.pointer (some ⟨b,0,none⟩),.int .i64 2,.string (mkS 32 (shF O (acK O H0 C0 m)))] u fun e w'=>∃gl cl,e=.returned (.slice (some ⟨gl,0,none⟩) 2 cl)∧u.heap.size≤gl∧RowsAt w' gl 2 0 (acM O H0 C0 m)∧StAt w' b (Mu H0 m) (acM O H0 C0 m 0)∧Touch (fun x=>x=b) u w':=fun b u g=>D9 b 2 _ _ _ u g (Dr _ _ 0 32) (by rw[Ar];omega) (by omega) (by omega)
 have HOP1:Hid (∀(b:Nat) (u:World),StAt u b (Jh H0 m) (acL O C0 m 0)→Calls prog 48 #[.pointer (some ⟨b,0,none⟩),.agg (WA .u8 32 (acL O C0 m 1)),.string (m.extract 40 88)] u fun e w'=>e=.returned (.tuple #[.string (acP O H0 C0 m).1,.bool (decide ((acP O H0 C0 m).2=0))])∧StAt w' b (Mu H0 m) (acL O C0 m 0)∧Touch (fun x=>x=b) u w'):=Hid.mk (fun b u g=>Lo b _ _ _ _ u g (Dr _ _ 1 32) (C6 _ _ 32) (by omega));have HOP2:Hid (∀(b:Nat) (u:World),StAt u b (Mu H0 m) (acM O H0 C0 m 0)→Calls prog 48 #[.pointer (some ⟨b,0,none⟩),.agg (WA .u8 32 (acM O H0 C0 m 1)),.string (m.extract 88 116)] u fun e w'=>e=.returned (.tuple #[.string (acT O H0 C0 m).1,.bool (decide ((acT O H0 C0 m).2=0))])∧StAt w' b (QZ H0 m) (acM O H0 C0 m 0)∧Touch (fun x=>x=b) u w'):=Hid.mk (fun b u g=>Lo b _ _ _ _ u g (Dr _ _ 1 32) (C6 _ _ 32) (by omega));have HTZ:Hid ((acT O H0 C0 m).2=0→(acT O H0 C0 m).1.size=12):=Hid.mk (fun e=>by have h:(acT O H0 C0 m).1.size=(m.extract 88 116).size-16:=Nq _ _ _ _ e;rw[h,s3']);have hs1:=Px O (acE m) 32;have hs2:=Px O (acK O H0 C0 m) 32;clear s1' s2' s3' s4' hEb hKb hH0 hC0 h1 h2;generalize Kt (m.extract 4 8)=ix at *;generalize m.extract 4 8=x4 at *;generalize acT O H0 C0 m=TP at *;generalize QZ H0 m=H3 at *;generalize acM O H0 C0 m=M at *;generalize Mu H0 m=H2 at *;generalize shF O (acK O H0 C0 m)=s2 at *;generalize shZ O (acK O H0 C0 m)=z2 at *;generalize acK O H0 C0 m=Kk at *;generalize acP O H0 C0 m=PP at *;generalize acL O C0 m=L at *;generalize Jh H0 m=H1 at *;generalize shF O (acE m)=s1 at *;generalize shZ O (acE m)=z1 at *;generalize acE m=E at *;generalize chn C0 (m.extract 8 40)=C1 at *;generalize m.extract 8 40=e0 at *;generalize m.extract 40 88=x1 at *;generalize m.extract 88 116=x2 at *
 go_wp2_with (first|(refine Ae rfl (Dp rfl (by rfl) (by rfl) (Sv m 4 _ HM4.out)) ?_)|(refine Ae rfl (Js rfl (by rfl) (by rfl) HN.out) ?_)|(refine Aq Af g0 (by rfl) ?_))
 refine(GL O _ hO).mono ?_;rintro x v1 ⟨rfl,hb⟩;replace g0:=g0.kept hb;replace gH:=gH.kept hb;replace gT:=gT.kept hb;replace gS:=gS.kept hb;replace hB:=hB.trans (hb.mono hB.size);clear hb;go_wp2_with fail;have lS:=gS.lt;refine(hBeg _).mono ?_;rintro x v2 ⟨b,hbb,rfl,g,hb⟩;replace g0:=g0.kept hb;replace gH:=gH.kept hb;replace gT:=gT.kept hb;replace gS:=gS.kept hb;replace hB:=hB.trans (hb.mono hB.size);clear hb;clear hBeg
 go_wp2_with (refine Ae rfl (C4 (u:=.int .i64 8) (u':=.int .i64 40) rfl (by rfl) (by rfl) (by rfl) (HS1.out _)) ?_)
 refine(hC1 b _ g).mono ?_;rintro x v3 ⟨gl1,cl1,rfl,_,_,g2,t1⟩;clear g;replace g0:=g0.tou t1 (by omega);replace gH:=gH.tou t1 (by omega);replace gT:=gT.tou t1 (by omega);replace gS:=gS.tou t1 (by omega);replace hB:=AU hB t1 (by omega) (Acg _);clear t1;go_wp2_with fail;refine(hMX b _ g2).mono ?_;rintro x v4 ⟨rfl,g,t1⟩;clear g2;replace g0:=g0.tou t1 (by omega);replace gH:=gH.tou t1 (by omega);replace gT:=gT.tou t1 (by omega);replace gS:=gS.tou t1 (by omega);replace hB:=AU hB t1 (by omega) (Acg _);clear t1;go_wp2_with fail;have HG0:Hid (∀u,Below v4.heap.size v4 u→ArrAt u w.heap.size .u8 22 32 O):=Hid.mk (fun u hu=>g0.kept hu);refine Ai (Below v4.heap.size v4) v4.heap.size
   ([]:List (Nat×Cont))
   [kv (.agg (WA .u8 32 (O))),kv (.string e0),kv (.agg (WA .u8 32 (E))),kv (.tuple #[.agg (WA .u8 32 s1),.bool z1]),kv (.tuple #[.agg (WA .u8 32 s1),.bool z1]),kv (.agg (WA .u8 32 (s1))),kv (.bool z1),kp (WA .u8 32 fun _=>0) 22 8 (WA .u8 32 s1),.val fun _=>True,kv (.bool z1)]
   [.none,.none,.none,.none,.none,.none,.none,.none,.own 7 1]
   [some 37,some 38,some 39,some 40,some 36,some 41,some 42,some 10,none,some 11]
   [(2,.pointer (some ⟨w.heap.size,0,none⟩)),(9,.string e0)]
   [[],[],[.slot 1],[.slot 0,.slot 2],[.slot 3],[.slot 4],[.slot 4],[],[.slot 7,.cont 7 0,.slot 5],[.slot 6]]
   [.slot 9,.slot 7,.cont 7 1] [37,38,39,40,36,41,42,10,11]
   rfl (by kernel_rfl) ⟨rfl,rfl,trivial⟩ (Below.refl _ v4).drew (Acg _) trivial trivial (A8 (Acg _) trivial)
   ⟨
    (fun _ _ ww _ hS _ fr _=>sV (AA rfl Af (HG0.out ww hS) fr.1)),
    sL fun f _=>sV (Ab rfl f.2.1),
    (fun _ _ ww _ _ _ _ kn=>.inl ⟨trivial,fun K hK=>AH Hs rfl (BI kn.1) (HKY1.out ww) (fun w' hb=>hK _ _ ⟨Ac hb,rfl⟩)⟩),
    (fun _ _ ww _ _ _ _ kn=>.inl ⟨trivial,fun K hK=>AH Jm rfl (CT kn.1 kn.2.1) (HSH1.out ww) (fun w' hb=>hK _ _ ⟨Ac hb,rfl⟩)⟩),
    sL fun _ k=>sV (Ab rfl k.1),
    sL fun _ k=>sV (Cp rfl k.1 rfl),
    sL fun _ k=>sV (Cp rfl k.1 rfl),
    sL fun _ _=>.inl ⟨trivial,fun K hK=>Bi Ju rfl (fun w' hb hg=>hK _ _ ⟨Ac hb,_,Acg _,rfl,Al hg⟩)⟩,
    sL fun _ k=>.inl ⟨trivial,fun K hK=>Bs rfl Af k.1.1 k.2.2.1 (Ak k.2.1) (fun w2 hg ho=>hK _ _ ⟨Ag ho,Al hg,trivial⟩)⟩,
    sL fun _ k=>sV (Av rfl k.1),
    trivial⟩ ?_
 intro vs own v5 hb hsz kn inj;clear inj hsz HG0;obtain⟨e11,k7,c7,-⟩:=kn;obtain⟨e10,hge,hlt⟩:=k7;change vs 11=_ at e11;change vs 10=_ at e10;have gs:ArrAt v5 (own 7) .u8 22 32 s1:=Ak c7;clear c7;have lg4:=g.lt;replace g0:=g0.kept hb;replace gH:=gH.kept hb;replace gT:=gT.kept hb;replace gS:=gS.kept hb;replace g:=g.kept hb;replace hB:=hB.trans (hb.mono hB.size);clear hb;simp only[Am,Act.put,Aci,Acj,Ach,e10,e11];generalize own 7=bs at *;clear e10 e11;cases z1
 ·rw[if_pos (by decide)] at hR
  go_wp2_with fail;have HGS:Hid (∀u,Touch (fun x=>x=(w.heap.size+1)∨x=(w.heap.size+1+1)) v5 u→ArrAt u (w.heap.size+1+1+1) .u8 26 12 (fun _=>0)):=Hid.mk (fun u hu=>gS.block (hu.block _ gS.lt (by omega)));refine Ai (Touch (fun x=>x=(w.heap.size+1)∨x=(w.heap.size+1+1)) v5) v5.heap.size
    [((w.heap.size+1),once (SC 162 Bk) 31 2 (SC 162 Bk)),((w.heap.size+1+1),once (WA .u8 12 (fun _=>0)) 26 3 (WA .u8 12 (fun _=>0)))]
    [kv (.agg (SC 162 Bk)),kv (.agg (WA .u8 12 (fun _=>0))),.val fun _=>True,.val fun _=>True,kv (.int .i64 18)]
    [.none,.none,.base 0 1,.base 1 1]
    [some 45,some 46,none,none,some 6]
    [(7,.pointer (some ⟨(w.heap.size+1+1+1),0,none⟩)),(4,.pointer (some ⟨(w.heap.size+1),0,none⟩)),(5,.pointer (some ⟨(w.heap.size+1+1),0,none⟩))]
    [[],[],[.slot 0,.base 0 0],[.slot 1,.base 1 0],[]]
    [.base 0 1,.base 1 1,.slot 4] [45,46,6]
    rfl (by kernel_rfl) ⟨rfl,rfl,rfl,trivial⟩ (Rf (Below.refl _ v5).drew) (Acg _) ⟨⟨gH.lt,Al gH⟩,⟨gT.lt,Al gT⟩,trivial⟩ ⟨⟨(show ((w.heap.size+1):Nat)≠(w.heap.size+1+1) from by omega),trivial⟩,trivial,trivial⟩ Fb
    ⟨
     sL fun _ _=>sV (DA rfl),
     (fun _ _ ww _ hS _ fr _=>sV (AA rfl Ax (HGS.out ww hS) fr.1)),
     sL fun f k=>.inl ⟨trivial,fun K hK=>CH rfl AV (Bu _ _ _ _ _ _ _) f.2.1 k.1 (Ak k.2.1) (fun w2 hg ho=>hK _ _ ⟨⟨Ag ho,Al hg⟩,trivial⟩)⟩,
     sL fun f k=>.inl ⟨trivial,fun K hK=>Bs rfl Ax f.2.2.1 k.1 (Ak k.2.1) (fun w2 hg ho=>hK _ _ ⟨⟨Ag ho,Al hg⟩,trivial⟩)⟩,
     sL fun _ _=>sV (Av (v:=.int .i64 18) rfl rfl),
     trivial⟩ ?_
  intro vs own vZ hT9 hsz kn inj;clear inj hsz HGS;obtain⟨k0,k1,e6,-⟩:=kn;change vs 6=_ at e6;have gH9:SAt vZ (w.heap.size+1) 31 162 Bk:=Ak k0;have gT9:ArrAt vZ (w.heap.size+1+1) .u8 26 12 (fun _=>0):=Ak k1;simp only[Am,Act.put,Aci,Acj,Ach,e6];replace hB:=Iw hB hT9 (by omega);go_wp2_with fail;exact bodyPost_ret (v:=Gf 18) (Et results12 AV Ax gH9 gT9 (by rfl) (by rfl) (by rfl)) rfl ⟨by rw[←hR],hB⟩
 rw[if_neg (by decide)] at hR
 go_wp2_with (refine Aq Af gs (by rfl) ?_)
 refine(C5 s1 _ hs1).mono ?_;rintro x v6 ⟨rfl,hb⟩;replace g0:=g0.kept hb;replace gH:=gH.kept hb;replace gT:=gT.kept hb;replace gS:=gS.kept hb;replace gs:=gs.kept hb;replace g:=g.kept hb;replace hB:=hB.trans (hb.mono hB.size);clear hb;go_wp2_with fail;have lg:=g.lt;refine(hC2 b _ g).mono ?_;rintro x v7 ⟨gl,cl,rfl,hgl,rL,g2,t1⟩;clear g;replace g0:=g0.tou t1 (by omega);replace gH:=gH.tou t1 (by omega);replace gT:=gT.tou t1 (by omega);replace gS:=gS.tou t1 (by omega);replace gs:=gs.tou t1 (by omega);replace hB:=AU hB t1 (by omega) (Acg _);clear t1;have g:=g2;clear g2;obtain⟨P1,hP1⟩:∃X,PP.1=X:=⟨_,rfl⟩;obtain⟨zP,hzP⟩:∃X,decide (PP.2=0)=X:=⟨_,rfl⟩;rw[hP1,hzP] at HOP1;rw[hP1] at HKY2;go_wp2_with fail;have HRL:Hid (∀u,Touch (fun x=>x=b) v7 u→RowsAt u gl 2 0 L):=Hid.mk (fun u hu=>rL.touch hu (by omega));refine Ai (Touch (fun x=>x=b) v7) v7.heap.size
   [(b,once (WA .u8 64 (cat 32 H1 (L 0))) 84 6 (WA .u8 64 (cat 32 H2 (L 0))))]
   [kv (.pointer (some ⟨b,0,none⟩)),kv (.slice (some ⟨gl,0,none⟩) 2 cl),kv (.pointer (some ⟨gl,1*32,none⟩)),kv (.agg (WA .u8 32 (L 1))),kv (.string m),kv (.string x1),kv (.tuple #[.string P1,.bool zP]),kv (.tuple #[.string P1,.bool zP]),kv (.string P1),kv (.bool zP),kv (.string P1),kv (.bool zP)]
   [.none,.none,.none,.none,.none,.none,.base 0 1]
   [some 52,some 53,some 54,some 55,some 56,some 57,some 58,some 51,some 59,some 60,some 13,some 11]
   [(8,.pointer (some ⟨b,0,none⟩)),(12,.slice (some ⟨gl,0,none⟩) 2 cl),(1,.string m)]
   [[],[],[.slot 1],[.slot 2],[],[.slot 4],[.slot 0,.slot 3,.slot 5,.base 0 0],[.slot 6],[.slot 7],[.slot 7],[.slot 8],[.slot 9]]
   [.base 0 1,.slot 10,.slot 11] [52,53,54,55,56,57,58,51,59,60,13,11]
   rfl (by kernel_rfl) ⟨rfl,rfl,rfl,trivial⟩ (DQ b (Below.refl _ v7).drew) (Acg _) ⟨⟨g.lt,Al g⟩,trivial⟩ ⟨trivial,trivial⟩ Fj
   ⟨
    sL fun f _=>sV (Ab rfl f.1),
    sL fun f _=>sV (Ab rfl f.2.1),
    sL fun _ k=>sV (De (i:=1) rfl k.1 rfl (by omega)),
    (fun _ _ ww _ hS _ _ kn=>sV (Ao rfl Af kn.1 ((HRL.out ww hS).range (Nat.zero_le 1) (by omega)))),
    sL fun f _=>sV (Ab rfl f.2.2.1),
    (fun _ _ ww _ _ _ _ kn=>sV (C4 (u:=.int .i64 40) (u':=.int .i64 88) rfl kn.1 rfl rfl (HS2.out ww))),
    (fun _ _ ww _ _ _ _ kn=>.inl ⟨trivial,fun K hK=>RY Km rfl (Gu kn.1 kn.2.1 kn.2.2.1) (HOP1.out b ww (Ak kn.2.2.2.1)) (fun w' hg ht=>hK _ _ ⟨⟨ht,Al hg⟩,rfl⟩)⟩),
    sL fun _ k=>sV (Ab rfl k.1),
    sL fun _ k=>sV (Cp rfl k.1 rfl),
    sL fun _ k=>sV (Cp rfl k.1 rfl),
    sL fun _ k=>sV (Av rfl k.1),
    sL fun _ k=>sV (Av rfl k.1),
    trivial⟩ ?_
 intro vs own v8 hT1 hsz kn inj;clear inj hsz HRL;obtain⟨kg,e1,e2,-⟩:=kn;change vs 13=_ at e1;change vs 11=_ at e2;have g2:StAt v8 b H2 (L 0):=Ak kg;clear kg g;replace g0:=g0.tou hT1 (by omega);replace gH:=gH.tou hT1 (by omega);replace gT:=gT.tou hT1 (by omega);replace gS:=gS.tou hT1 (by omega);replace gs:=gs.tou hT1 (by omega);replace hB:=AU hB hT1 (by omega) (Acg _);clear hT1;have g:=g2;clear g2;simp only[Am,Act.put,Aci,Acj,Ach,e1,e2];clear e1 e2
 by_cases hp:PP.2=0
 case neg =>
  obtain rfl:zP=false:=by rw[←hzP];exact decide_eq_false hp
  rw[if_pos hp] at hR;go_wp2_with fail;have HGS:Hid (∀u,Touch (fun x=>x=(w.heap.size+1)∨x=(w.heap.size+1+1)) v8 u→ArrAt u (w.heap.size+1+1+1) .u8 26 12 (fun _=>0)):=Hid.mk (fun u hu=>gS.block (hu.block _ gS.lt (by omega)));refine Ai (Touch (fun x=>x=(w.heap.size+1)∨x=(w.heap.size+1+1)) v8) v8.heap.size
    [((w.heap.size+1),once (SC 162 Bk) 31 2 (SC 162 Bk)),((w.heap.size+1+1),once (WA .u8 12 (fun _=>0)) 26 3 (WA .u8 12 (fun _=>0)))]
    [kv (.agg (SC 162 Bk)),kv (.agg (WA .u8 12 (fun _=>0))),.val fun _=>True,.val fun _=>True,kv (.int .i64 13)]
    [.none,.none,.base 0 1,.base 1 1]
    [some 63,some 64,none,none,some 6]
    [(7,.pointer (some ⟨(w.heap.size+1+1+1),0,none⟩)),(4,.pointer (some ⟨(w.heap.size+1),0,none⟩)),(5,.pointer (some ⟨(w.heap.size+1+1),0,none⟩))]
    [[],[],[.slot 0,.base 0 0],[.slot 1,.base 1 0],[]]
    [.base 0 1,.base 1 1,.slot 4] [63,64,6]
    rfl (by kernel_rfl) ⟨rfl,rfl,rfl,trivial⟩ (Rf (Below.refl _ v8).drew) (Acg _) ⟨⟨gH.lt,Al gH⟩,⟨gT.lt,Al gT⟩,trivial⟩ ⟨⟨(show ((w.heap.size+1):Nat)≠(w.heap.size+1+1) from by omega),trivial⟩,trivial,trivial⟩ Fb
    ⟨
     sL fun _ _=>sV (DA rfl),
     (fun _ _ ww _ hS _ fr _=>sV (AA rfl Ax (HGS.out ww hS) fr.1)),
     sL fun f k=>.inl ⟨trivial,fun K hK=>CH rfl AV (Bu _ _ _ _ _ _ _) f.2.1 k.1 (Ak k.2.1) (fun w2 hg ho=>hK _ _ ⟨⟨Ag ho,Al hg⟩,trivial⟩)⟩,
     sL fun f k=>.inl ⟨trivial,fun K hK=>Bs rfl Ax f.2.2.1 k.1 (Ak k.2.1) (fun w2 hg ho=>hK _ _ ⟨⟨Ag ho,Al hg⟩,trivial⟩)⟩,
     sL fun _ _=>sV (Av (v:=.int .i64 13) rfl rfl),
     trivial⟩ ?_
  intro vs own vZ hT9 hsz kn inj;clear inj hsz HGS;obtain⟨k0,k1,e6,-⟩:=kn;change vs 6=_ at e6;have gH9:SAt vZ (w.heap.size+1) 31 162 Bk:=Ak k0;have gT9:ArrAt vZ (w.heap.size+1+1) .u8 26 12 (fun _=>0):=Ak k1;simp only[Am,Act.put,Aci,Acj,Ach,e6];replace hB:=Iw hB hT9 (by omega);go_wp2_with fail;exact bodyPost_ret (v:=Gf 13) (Et results12 AV Ax gH9 gT9 (by rfl) (by rfl) (by rfl)) rfl ⟨by rw[←hR],hB⟩
 obtain rfl:zP=true:=by rw[←hzP];exact decide_eq_true hp
 rw[if_neg (not_not_intro hp)] at hR;replace HKY2:=Hid.mk (HKY2.out hp);go_wp2_with fail;have HG0:Hid (∀u,Touch (fun x=>x=bs) v8 u→ArrAt u w.heap.size .u8 22 32 O):=Hid.mk (fun u hu=>g0.tou hu (by omega));refine Ai (Touch (fun x=>x=bs) v8) v8.heap.size
   [(bs,once (WA .u8 32 s1) 22 7 (WA .u8 32 s2))]
   [kv (.agg (WA .u8 32 (O))),kv (.string P1),kv (.agg (WA .u8 32 (Kk))),kv (.tuple #[.agg (WA .u8 32 s2),.bool z2]),kv (.tuple #[.agg (WA .u8 32 s2),.bool z2]),kv (.agg (WA .u8 32 (s2))),kv (.bool z2),.val fun _=>True,kv (.bool z2)]
   [.none,.none,.none,.none,.none,.none,.none,.base 0 1]
   [some 66,some 67,some 68,some 69,some 65,some 70,some 71,none,some 11]
   [(2,.pointer (some ⟨w.heap.size,0,none⟩)),(13,.string P1),(10,.pointer (some ⟨bs,0,none⟩))]
   [[],[],[.slot 1],[.slot 0,.slot 2],[.slot 3],[.slot 4],[.slot 4],[.slot 5,.base 0 0],[.slot 6]]
   [.base 0 1,.slot 8] [66,67,68,69,65,70,71,11]
   rfl (by kernel_rfl) ⟨rfl,rfl,rfl,trivial⟩ (DQ bs (Below.refl _ v8).drew) (Acg _) ⟨⟨gs.lt,Al gs⟩,trivial⟩ ⟨trivial,trivial⟩ Fj
   ⟨
    (fun _ _ ww _ hS _ fr _=>sV (AA rfl Af (HG0.out ww hS) fr.1)),
    sL fun f _=>sV (Ab rfl f.2.1),
    (fun _ _ ww _ _ _ _ kn=>.inl ⟨trivial,fun K hK=>AH Hs rfl (BI kn.1) (HKY2.out ww) (fun w' hb=>hK _ _ ⟨Ac hb,rfl⟩)⟩),
    (fun _ _ ww _ _ _ _ kn=>.inl ⟨trivial,fun K hK=>AH Jm rfl (CT kn.1 kn.2.1) (HSH2.out ww) (fun w' hb=>hK _ _ ⟨Ac hb,rfl⟩)⟩),
    sL fun _ k=>sV (Ab rfl k.1),
    sL fun _ k=>sV (Cp rfl k.1 rfl),
    sL fun _ k=>sV (Cp rfl k.1 rfl),
    sL fun f k=>.inl ⟨trivial,fun K hK=>Bs rfl Af f.2.2.1 k.1 (Ak k.2.1) (fun w2 hg ho=>hK _ _ ⟨⟨Ag ho,Al hg⟩,trivial⟩)⟩,
    sL fun _ k=>sV (Av rfl k.1),
    trivial⟩ ?_
 intro vs own v9 hT1 hsz kn inj;clear inj hsz HG0;obtain⟨kg,e11,-⟩:=kn;change vs 11=_ at e11;have gs2:ArrAt v9 bs .u8 22 32 s2:=Ak kg;clear kg gs;replace g0:=g0.tou hT1 (by omega);replace gH:=gH.tou hT1 (by omega);replace gT:=gT.tou hT1 (by omega);replace gS:=gS.tou hT1 (by omega);replace g:=g.tou hT1 (by omega);replace hB:=AU hB hT1 (by omega) (Acg _);clear hT1;have gs:=gs2;clear gs2;simp only[Am,Act.put,Aci,Acj,Ach,e11];clear e11;cases z2
 ·rw[if_pos (by decide)] at hR
  go_wp2_with fail;have HGS:Hid (∀u,Touch (fun x=>x=(w.heap.size+1)∨x=(w.heap.size+1+1)) v9 u→ArrAt u (w.heap.size+1+1+1) .u8 26 12 (fun _=>0)):=Hid.mk (fun u hu=>gS.block (hu.block _ gS.lt (by omega)));refine Ai (Touch (fun x=>x=(w.heap.size+1)∨x=(w.heap.size+1+1)) v9) v9.heap.size
    [((w.heap.size+1),once (SC 162 Bk) 31 2 (SC 162 Bk)),((w.heap.size+1+1),once (WA .u8 12 (fun _=>0)) 26 3 (WA .u8 12 (fun _=>0)))]
    [kv (.agg (SC 162 Bk)),kv (.agg (WA .u8 12 (fun _=>0))),.val fun _=>True,.val fun _=>True,kv (.int .i64 18)]
    [.none,.none,.base 0 1,.base 1 1]
    [some 74,some 75,none,none,some 6]
    [(7,.pointer (some ⟨(w.heap.size+1+1+1),0,none⟩)),(4,.pointer (some ⟨(w.heap.size+1),0,none⟩)),(5,.pointer (some ⟨(w.heap.size+1+1),0,none⟩))]
    [[],[],[.slot 0,.base 0 0],[.slot 1,.base 1 0],[]]
    [.base 0 1,.base 1 1,.slot 4] [74,75,6]
    rfl (by kernel_rfl) ⟨rfl,rfl,rfl,trivial⟩ (Rf (Below.refl _ v9).drew) (Acg _) ⟨⟨gH.lt,Al gH⟩,⟨gT.lt,Al gT⟩,trivial⟩ ⟨⟨(show ((w.heap.size+1):Nat)≠(w.heap.size+1+1) from by omega),trivial⟩,trivial,trivial⟩ Fb
    ⟨
     sL fun _ _=>sV (DA rfl),
     (fun _ _ ww _ hS _ fr _=>sV (AA rfl Ax (HGS.out ww hS) fr.1)),
     sL fun f k=>.inl ⟨trivial,fun K hK=>CH rfl AV (Bu _ _ _ _ _ _ _) f.2.1 k.1 (Ak k.2.1) (fun w2 hg ho=>hK _ _ ⟨⟨Ag ho,Al hg⟩,trivial⟩)⟩,
     sL fun f k=>.inl ⟨trivial,fun K hK=>Bs rfl Ax f.2.2.1 k.1 (Ak k.2.1) (fun w2 hg ho=>hK _ _ ⟨⟨Ag ho,Al hg⟩,trivial⟩)⟩,
     sL fun _ _=>sV (Av (v:=.int .i64 18) rfl rfl),
     trivial⟩ ?_
  intro vs own vZ hT9 hsz kn inj;clear inj hsz HGS;obtain⟨k0,k1,e6,-⟩:=kn;change vs 6=_ at e6;have gH9:SAt vZ (w.heap.size+1) 31 162 Bk:=Ak k0;have gT9:ArrAt vZ (w.heap.size+1+1) .u8 26 12 (fun _=>0):=Ak k1;simp only[Am,Act.put,Aci,Acj,Ach,e6];replace hB:=Iw hB hT9 (by omega);go_wp2_with fail;exact bodyPost_ret (v:=Gf 18) (Et results12 AV Ax gH9 gT9 (by rfl) (by rfl) (by rfl)) rfl ⟨by rw[←hR],hB⟩
 rw[if_neg (by decide)] at hR;clear rL hgl
 go_wp2_with (refine Aq Af gs (by rfl) ?_)
 refine(C5 s2 _ hs2).mono ?_;rintro x v10 ⟨rfl,hb⟩;replace g0:=g0.kept hb;replace gH:=gH.kept hb;replace gT:=gT.kept hb;replace gS:=gS.kept hb;replace gs:=gs.kept hb;replace g:=g.kept hb;replace hB:=hB.trans (hb.mono hB.size);clear hb;go_wp2_with fail;have lg:=g.lt;refine(hC3 b _ g).mono ?_;rintro x v11 ⟨gl,cl,rfl,hgl,rL,g2,t1⟩;clear g;replace g0:=g0.tou t1 (by omega);replace gH:=gH.tou t1 (by omega);replace gT:=gT.tou t1 (by omega);replace gS:=gS.tou t1 (by omega);replace gs:=gs.tou t1 (by omega);replace hB:=AU hB t1 (by omega) (Acg _);clear t1;have g:=g2;clear g2;obtain⟨T1,hT1e⟩:∃X,TP.1=X:=⟨_,rfl⟩;obtain⟨zT,hzT⟩:∃X,decide (TP.2=0)=X:=⟨_,rfl⟩;rw[hT1e,hzT] at HOP2;go_wp2_with fail;have HRL:Hid (∀u,Touch (fun x=>x=b) v11 u→RowsAt u gl 2 0 M):=Hid.mk (fun u hu=>rL.touch hu (by omega));refine Ai (Touch (fun x=>x=b) v11) v11.heap.size
   [(b,once (WA .u8 64 (cat 32 H2 (M 0))) 84 6 (WA .u8 64 (cat 32 H3 (M 0))))]
   [kv (.pointer (some ⟨b,0,none⟩)),kv (.slice (some ⟨gl,0,none⟩) 2 cl),kv (.pointer (some ⟨gl,1*32,none⟩)),kv (.agg (WA .u8 32 (M 1))),kv (.string m),kv (.string x2),kv (.tuple #[.string T1,.bool zT]),kv (.tuple #[.string T1,.bool zT]),kv (.string T1),kv (.bool zT),kv (.string T1),kv (.bool zT)]
   [.none,.none,.none,.none,.none,.none,.base 0 1]
   [some 81,some 82,some 83,some 84,some 85,some 86,some 87,some 80,some 88,some 89,some 14,some 11]
   [(8,.pointer (some ⟨b,0,none⟩)),(12,.slice (some ⟨gl,0,none⟩) 2 cl),(1,.string m)]
   [[],[],[.slot 1],[.slot 2],[],[.slot 4],[.slot 0,.slot 3,.slot 5,.base 0 0],[.slot 6],[.slot 7],[.slot 7],[.slot 8],[.slot 9]]
   [.base 0 1,.slot 10,.slot 11] [81,82,83,84,85,86,87,80,88,89,14,11]
   rfl (by kernel_rfl) ⟨rfl,rfl,rfl,trivial⟩ (DQ b (Below.refl _ v11).drew) (Acg _) ⟨⟨g.lt,Al g⟩,trivial⟩ ⟨trivial,trivial⟩ Fj
   ⟨
    sL fun f _=>sV (Ab rfl f.1),
    sL fun f _=>sV (Ab rfl f.2.1),
    sL fun _ k=>sV (De (i:=1) rfl k.1 rfl (by omega)),
    (fun _ _ ww _ hS _ _ kn=>sV (Ao rfl Af kn.1 ((HRL.out ww hS).range (Nat.zero_le 1) (by omega)))),
    sL fun f _=>sV (Ab rfl f.2.2.1),
    (fun _ _ ww _ _ _ _ kn=>sV (C4 (u:=.int .i64 88) (u':=.int .i64 116) rfl kn.1 rfl rfl (HS3.out ww))),
    (fun _ _ ww _ _ _ _ kn=>.inl ⟨trivial,fun K hK=>RY Km rfl (Gu kn.1 kn.2.1 kn.2.2.1) (HOP2.out b ww (Ak kn.2.2.2.1)) (fun w' hg ht=>hK _ _ ⟨⟨ht,Al hg⟩,rfl⟩)⟩),
    sL fun _ k=>sV (Ab rfl k.1),
    sL fun _ k=>sV (Cp rfl k.1 rfl),
    sL fun _ k=>sV (Cp rfl k.1 rfl),
    sL fun _ k=>sV (Av rfl k.1),
    sL fun _ k=>sV (Av rfl k.1),
    trivial⟩ ?_
 intro vs own v12 hT1 hsz kn inj;clear inj hsz HRL;obtain⟨kg,e1,e2,-⟩:=kn;change vs 14=_ at e1;change vs 11=_ at e2;have g2:StAt v12 b H3 (M 0):=Ak kg;clear kg g;replace g0:=g0.tou hT1 (by omega);replace gH:=gH.tou hT1 (by omega);replace gT:=gT.tou hT1 (by omega);replace gS:=gS.tou hT1 (by omega);replace gs:=gs.tou hT1 (by omega);replace hB:=AU hB hT1 (by omega) (Acg _);clear hT1;have g:=g2;clear g2;simp only[Am,Act.put,Aci,Acj,Ach,e1,e2];clear e1 e2
 by_cases ht:TP.2=0
 case neg =>
  obtain rfl:zT=false:=by rw[←hzT];exact decide_eq_false ht
  rw[if_pos ht] at hR;go_wp2_with fail;have HGS:Hid (∀u,Touch (fun x=>x=(w.heap.size+1)∨x=(w.heap.size+1+1)) v12 u→ArrAt u (w.heap.size+1+1+1) .u8 26 12 (fun _=>0)):=Hid.mk (fun u hu=>gS.block (hu.block _ gS.lt (by omega)));refine Ai (Touch (fun x=>x=(w.heap.size+1)∨x=(w.heap.size+1+1)) v12) v12.heap.size
    [((w.heap.size+1),once (SC 162 Bk) 31 2 (SC 162 Bk)),((w.heap.size+1+1),once (WA .u8 12 (fun _=>0)) 26 3 (WA .u8 12 (fun _=>0)))]
    [kv (.agg (SC 162 Bk)),kv (.agg (WA .u8 12 (fun _=>0))),.val fun _=>True,.val fun _=>True,kv (.int .i64 13)]
    [.none,.none,.base 0 1,.base 1 1]
    [some 92,some 93,none,none,some 6]
    [(7,.pointer (some ⟨(w.heap.size+1+1+1),0,none⟩)),(4,.pointer (some ⟨(w.heap.size+1),0,none⟩)),(5,.pointer (some ⟨(w.heap.size+1+1),0,none⟩))]
    [[],[],[.slot 0,.base 0 0],[.slot 1,.base 1 0],[]]
    [.base 0 1,.base 1 1,.slot 4] [92,93,6]
    rfl (by kernel_rfl) ⟨rfl,rfl,rfl,trivial⟩ (Rf (Below.refl _ v12).drew) (Acg _) ⟨⟨gH.lt,Al gH⟩,⟨gT.lt,Al gT⟩,trivial⟩ ⟨⟨(show ((w.heap.size+1):Nat)≠(w.heap.size+1+1) from by omega),trivial⟩,trivial,trivial⟩ Fb
    ⟨
     sL fun _ _=>sV (DA rfl),
     (fun _ _ ww _ hS _ fr _=>sV (AA rfl Ax (HGS.out ww hS) fr.1)),
     sL fun f k=>.inl ⟨trivial,fun K hK=>CH rfl AV (Bu _ _ _ _ _ _ _) f.2.1 k.1 (Ak k.2.1) (fun w2 hg ho=>hK _ _ ⟨⟨Ag ho,Al hg⟩,trivial⟩)⟩,
     sL fun f k=>.inl ⟨trivial,fun K hK=>Bs rfl Ax f.2.2.1 k.1 (Ak k.2.1) (fun w2 hg ho=>hK _ _ ⟨⟨Ag ho,Al hg⟩,trivial⟩)⟩,
     sL fun _ _=>sV (Av (v:=.int .i64 13) rfl rfl),
     trivial⟩ ?_
  intro vs own vZ hT9 hsz kn inj;clear inj hsz HGS;obtain⟨k0,k1,e6,-⟩:=kn;change vs 6=_ at e6;have gH9:SAt vZ (w.heap.size+1) 31 162 Bk:=Ak k0;have gT9:ArrAt vZ (w.heap.size+1+1) .u8 26 12 (fun _=>0):=Ak k1;simp only[Am,Act.put,Aci,Acj,Ach,e6];replace hB:=Iw hB hT9 (by omega);go_wp2_with fail;exact bodyPost_ret (v:=Gf 13) (Et results12 AV Ax gH9 gT9 (by rfl) (by rfl) (by rfl)) rfl ⟨by rw[←hR],hB⟩
 obtain rfl:zT=true:=by rw[←hzT];exact decide_eq_true ht
 rw[if_neg (not_not_intro ht)] at hR;have hts:T1.size=12:=by rw[←hT1e];exact HTZ.out ht
 have HTT:Hid (mkS 12 (txt T1)=T1):=Hid.mk (by rw[←hts];exact CE T1);have HTB:Hid (∀j,j<12→0≤txt T1 j∧txt T1 j<256):=Hid.mk (fun j _=>Bn T1 j)
 go_wp2_with (refine EL (m:=12) (r:=txt T1) (by rfl) (by show Value.string T1=_;rw[HTT.out]) gS HTB.out (by omega) (by omega) ?_;intro w20 gS2 o4;refine Hid.out ?_)
 replace gS2:=gS2.congr (s':=txt T1) (fun j hj=>by unfold over;rw[if_pos (by omega),Nat.sub_zero]);replace g0:=g0.only o4 (by omega);replace gH:=gH.only o4 (by omega);replace gT:=gT.only o4 (by omega);replace g:=g.block (o4.block b (by omega));replace hB:=hB.trans (o4.below (by omega));clear o4 gS;refine Hid.mk ?_;rw[hT1e] at hR;generalize txt T1=Tt at *;go_wp2_with fail;have HGS:Hid (∀u,Touch (fun x=>x=(w.heap.size+1)∨x=(w.heap.size+1+1)) w20 u→ArrAt u (w.heap.size+1+1+1) .u8 26 12 Tt):=Hid.mk (fun u hu=>gS2.block (hu.block _ gS2.lt (by omega)));have HG:Hid (∀u,Touch (fun x=>x=(w.heap.size+1)∨x=(w.heap.size+1+1)) w20 u→StAt u b H3 (M 0)):=Hid.mk (fun u hu=>g.block (hu.block _ g.lt (by omega)));refine Ai (Touch (fun x=>x=(w.heap.size+1)∨x=(w.heap.size+1+1)) w20) w20.heap.size
   [((w.heap.size+1),once (SC 162 Bk) 31 17 (SC 162 (Cl H3 (M 0) (fun _=>0) E Kk 0 ix))),((w.heap.size+1+1),once (WA .u8 12 (fun _=>0)) 26 18 (WA .u8 12 Tt))]
   [kv (.pointer (some ⟨b,0,none⟩)),kv (.pointer (some ⟨b,0,none⟩)),kv (.pointer (some ⟨b,0,none⟩)),kv (.agg (WA .u8 32 (H3))),kv (.pointer (some ⟨b,0,none⟩)),kv (.pointer (some ⟨b,0,none⟩)),kv (.pointer (some ⟨b,32,none⟩)),kv (.agg (WA .u8 32 (M 0))),kv (.string e0),kv (.agg (WA .u8 32 (E))),kv (.string P1),kv (.agg (WA .u8 32 (Kk))),kv (.string m),kv (.string x4),kv (.int .u32 ix),kv (.agg (SC 162 (Cl H3 (M 0) (fun _=>0) E Kk 0 ix))),kv (.agg (WA .u8 12 Tt)),.val fun _=>True,.val fun _=>True,kv (.int .i64 0)]
   [.none,.none,.none,.none,.none,.none,.none,.none,.none,.none,.none,.none,.none,.none,.none,.none,.none,.base 0 1,.base 1 1]
   [some 97,some 98,some 99,some 100,some 101,some 102,some 103,some 104,some 105,some 106,some 107,some 108,some 109,some 110,some 111,some 112,some 113,none,none,some 6]
   [(8,.pointer (some ⟨b,0,none⟩)),(9,.string e0),(13,.string P1),(1,.string m),(7,.pointer (some ⟨(w.heap.size+1+1+1),0,none⟩)),(4,.pointer (some ⟨(w.heap.size+1),0,none⟩)),(5,.pointer (some ⟨(w.heap.size+1+1),0,none⟩))]
   [[],[.slot 0],[.slot 1],[.slot 2],[],[.slot 4],[.slot 5],[.slot 6],[],[.slot 8],[],[.slot 10],[],[.slot 12],[.slot 13],[.slot 3,.slot 7,.slot 9,.slot 11,.slot 14],[],[.slot 15,.base 0 0],[.slot 16,.base 1 0],[]]
   [.base 0 1,.base 1 1,.slot 19] [97,98,99,100,101,102,103,104,105,106,107,108,109,110,111,112,113,6]
   rfl (by kernel_rfl) ⟨rfl,rfl,rfl,rfl,rfl,rfl,rfl,trivial⟩ (Rf (Below.refl _ w20).drew) (Acg _) ⟨⟨gH.lt,Al gH⟩,⟨gT.lt,Al gT⟩,trivial⟩ ⟨⟨(show ((w.heap.size+1):Nat)≠(w.heap.size+1+1) from by omega),trivial⟩,trivial,trivial⟩ Fb
   ⟨
    sL fun f _=>sV (Ab rfl f.1),
    sL fun _ k=>sV (AO rfl k.1),
    sL fun _ k=>sV (IJ rfl k.1),
    (fun _ _ ww _ hS _ _ kn=>sV (Ao rfl Af kn.1 (HG.out ww hS).h)),
    sL fun f _=>sV (Ab rfl f.1),
    sL fun _ k=>sV (AO rfl k.1),
    sL fun _ k=>sV (Py rfl k.1),
    (fun _ _ ww _ hS _ _ kn=>sV (Ao rfl Af kn.1 (HG.out ww hS).c)),
    sL fun f _=>sV (Ab rfl f.2.1),
    (fun _ _ ww _ _ _ _ kn=>.inl ⟨trivial,fun K hK=>AH Hs rfl (BI kn.1) (HKY1.out ww) (fun w' hb=>hK _ _ ⟨Ac hb,rfl⟩)⟩),
    sL fun f _=>sV (Ab rfl f.2.2.1),
    (fun _ _ ww _ _ _ _ kn=>.inl ⟨trivial,fun K hK=>AH Hs rfl (BI kn.1) (HKY2.out ww) (fun w' hb=>hK _ _ ⟨Ac hb,rfl⟩)⟩),
    sL fun f _=>sV (Ab rfl f.2.2.2.1),
    (fun _ _ ww _ _ _ _ kn=>sV (C4 (u:=.int .i64 4) (u':=.int .i64 8) rfl kn.1 rfl rfl (HS4.out ww))),
    (fun _ _ ww _ _ _ _ kn=>.inl ⟨trivial,fun K hK=>AH U6 rfl (BI kn.1) (HNM.out ww) (fun w' hb=>hK _ _ ⟨Ac hb,rfl⟩)⟩),
    sL fun _ k=>sV (Nd rfl k.1 k.2.1 k.2.2.1 k.2.2.2.1 k.2.2.2.2.1),
    (fun _ _ ww _ hS _ fr _=>sV (AA rfl Ax (HGS.out ww hS) fr.2.2.2.2.1)),
    sL fun f k=>.inl ⟨trivial,fun K hK=>CH rfl AV (Bu _ _ _ _ _ _ _) f.2.2.2.2.2.1 k.1 (Ak k.2.1) (fun w2 hg ho=>hK _ _ ⟨⟨Ag ho,Al hg⟩,trivial⟩)⟩,
    sL fun f k=>.inl ⟨trivial,fun K hK=>Bs rfl Ax f.2.2.2.2.2.2.1 k.1 (Ak k.2.1) (fun w2 hg ho=>hK _ _ ⟨⟨Ag ho,Al hg⟩,trivial⟩)⟩,
    sL fun _ _=>sV (Av (v:=.int .i64 0) rfl rfl),
    trivial⟩ ?_
 intro vs own vZ hT9 hsz kn inj;clear inj hsz HGS HG;obtain⟨k0,k1,e6,-⟩:=kn;change vs 6=_ at e6;have gH9:SAt vZ (w.heap.size+1) 31 162 (Cl H3 (M 0) (fun _=>0) E Kk 0 ix):=Ak k0;have gT9:ArrAt vZ (w.heap.size+1+1) .u8 26 12 Tt:=Ak k1;simp only[Am,Act.put,Aci,Acj,Ach,e6];replace hB:=Iw hB hT9 (by omega);go_wp2_with fail;exact bodyPost_ret (v:=.tuple #[.agg (SC 162 (Cl H3 (M 0) (fun _=>0) E Kk 0 ix)),.agg (WA .u8 12 Tt),.int .i64 0]) (Et results12 AV Ax gH9 gT9 (by rfl) (by rfl) (by rfl)) rfl ⟨by rw[←hR],hB⟩
theorem PI(O:Nat→Int)(m:ByteArray)(w:World)(hO:Byts 32 O):Calls prog 12 #[.agg (WA .u8 32 O),.string m] w fun e w'=>e=.returned (BM O (Im (BT O)) F1 m)∧Below w.heap.size w w':=
 PH O _ _ m w hO (JI _ 32) (GF 32) (fun u=>GG _ u (GK O 32))
def JM(m:ByteArray)(T:Nat→Int)(i:Nat):Value:=if i<1 then .string m else .int .u8 (T (i-1))
theorem Sp{w:World}{b:Nat}{m:ByteArray}{T:Nat→Int}(h:SAt w b 28 13 (JM m T)):w.rangeAt b 1 (AC .u8 12 T):=h.range (by omega) (fun j hj=>by unfold JM;rw[if_neg (by omega),Ac0])
theorem Sq{w:World}{b:Nat}{m:ByteArray}{T:Nat→Int}(h:SAt w b 28 13 (JM m T)):w.cell? ⟨b,0,none⟩=some (.string m):=h.at 0 (by omega)
theorem XQ(O P E T H0 C0:Nat→Int)(ix:Int):∃M H C A R Q l f n,Fr O P E T H0 C0 ix=.tuple #[.string M,.agg (SC 162 (Cl H C A R Q l f)),.int .i64 n]:=by
 unfold Fr
 split
 ·exact⟨_,_,_,_,_,_,_,_,_,rfl⟩
 ·exact⟨_,_,_,_,_,_,_,_,_,rfl⟩
theorem FB{p:Prop}[Decidable p]{x y:Value}(Φ:Value→Prop)(hx:Φ x)(hy:Φ y):Φ (if p then x else y):=by split<;>assumption
def PJ(v:Value):Prop:=∃H C A R Q l f T n,v=.tuple #[.agg (SC 162 (Cl H C A R Q l f)),.agg (WA .u8 12 T),.int .i64 n]
theorem FC(n:Int):PJ (Gf n):=⟨_,_,_,_,_,_,_,_,_,rfl⟩
theorem XR(O H0 C0:Nat→Int)(m:ByteArray):PJ (BM O H0 C0 m):=by
 unfold BM;exact FB PJ (FC _) (FB PJ (FC _) (FB PJ (FC _) (FB PJ (FC _) (FB PJ (FC _) (FB PJ (FC _) ⟨_,_,_,_,_,_,_,_,_,rfl⟩)))))
theorem Rg(A Ea Pk T:Nat→Int)(ia:Int)(m:ByteArray)(M1:ByteArray)(H1 C1 O1 R1 Q1 H2 C2 O2 R2 Q2 T2:Nat→Int)(l1 f1 l2 f2 e1 e2:Int)(w:World)(hE:Env w)(h1:∀u,Env u→Calls prog 9 #[.agg (WA .u8 32 A),.agg (WA .u8 32 Pk),.agg (WA .u8 32 Ea),.agg (WA .u8 12 T),.int .u32 ia] u fun e w'=>e=.returned (.tuple #[.string M1,.agg (SC 162 (Cl H1 C1 O1 R1 Q1 l1 f1)),.int .i64 e1])∧Below u.heap.size u w')(h1r:∀u,Env u→Calls prog 10 #[.agg (WA .u8 32 A),.agg (WA .u8 32 Pk),.agg (WA .u8 32 Ea),.agg (WA .u8 12 T),.int .u32 ia] u fun e w'=>e=.returned (.tuple #[.string M1,.agg (SC 162 (Cl H1 C1 O1 R1 Q1 l1 f1)),.int .i64 e1])∧Below u.heap.size u w')(h2:∀u,Env u→Calls prog 11 #[.agg (WA .u8 32 A),.string m] u fun e w'=>e=.returned (.tuple #[.agg (SC 162 (Cl H2 C2 O2 R2 Q2 l2 f2)),.agg (WA .u8 12 T2),.int .i64 e2])∧Below u.heap.size u w')(h2r:∀u,Env u→Calls prog 12 #[.agg (WA .u8 32 A),.string m] u fun e w'=>e=.returned (.tuple #[.agg (SC 162 (Cl H2 C2 O2 R2 Q2 l2 f2)),.agg (WA .u8 12 T2),.int .i64 e2])∧Below u.heap.size u w'):Calls prog 3 #[.agg (SC 65 (Iv A Ea ia)),.agg (WA .u8 32 Pk),.agg (SC 13 (JM m T))] w fun e w'=>e=.returned (.bool true)∧Below w.heap.size w w':=by
 have hB:Below w.heap.size w (((w.alloc (.cells (SC 65 (Iv A Ea ia)) 25)).alloc (.cells (WA .u8 32 Pk) 22)).alloc (.cells (SC 13 (JM m T)) 28)):=(((Below.refl _ w).alloc (by simp) _).alloc (by simp) _).alloc (by simp;omega) _;have k0:SAt (((w.alloc (.cells (SC 65 (Iv A Ea ia)) 25)).alloc (.cells (WA .u8 32 Pk) 22)).alloc (.cells (SC 13 (JM m T)) 28)) w.heap.size 25 65 (Iv A Ea ia):=A6 w _ _ _;have k1:ArrAt (((w.alloc (.cells (SC 65 (Iv A Ea ia)) 25)).alloc (.cells (WA .u8 32 Pk) 22)).alloc (.cells (SC 13 (JM m T)) 28)) (w.heap.size+1) .u8 22 32 Pk:=AB w _ _ _;have k2:SAt (((w.alloc (.cells (SC 65 (Iv A Ea ia)) 25)).alloc (.cells (WA .u8 32 Pk) 22)).alloc (.cells (SC 13 (JM m T)) 28)) (w.heap.size+1+1) 28 13 (JM m T):=AK w _ _ _;replace hE:=hE.kept hB;go_enter func3,ntmps3;go_wp2_with fail;refine(Rd _ hE).mono ?_;rintro x v1 ⟨rfl,hb⟩;replace k0:=k0.kept hb;replace k1:=k1.kept hb;replace k2:=k2.kept hb;replace hE:=hE.kept hb;replace hB:=hB.trans (hb.mono hB.size);clear hb;have r0:=Sl k0;have r1:=Sn k0;have ci:=So k0;have r2:=Sp k2;have cm:=Sq k2
 go_wp2_with (first|(refine Ae rfl (Ao rfl Af (by rfl) r0) ?_)|(refine Ae rfl (Ao rfl Af (by rfl) r1) ?_)|(refine Ae rfl (Ao rfl Ax (by rfl) r2) ?_)|(refine Aq Af k1 (by rfl) ?_))
 refine(h1 _ hE).mono ?_;rintro x v2 ⟨rfl,hb⟩;replace k0:=k0.kept hb;replace k1:=k1.kept hb;replace k2:=k2.kept hb;replace hE:=hE.kept hb;replace hB:=hB.trans (hb.mono hB.size);clear hb;clear r0 r1 ci r2 cm;have lAk0:=k0.lt;have lAk1:=k1.lt;have lAk2:=k2.lt;have lAB:=hB.size;have lAE:=hE.two
 go_wp2_with (refine E9 ?_;intro v2a gA0 hb;refine Hid.out ?_)
 replace k0:=k0.kept hb;replace k1:=k1.kept hb;replace k2:=k2.kept hb;replace hE:=hE.kept hb;replace hB:=hB.trans (hb.mono hB.size);clear hb;refine Hid.mk ?_
 go_wp2_with (refine En AV (Bu _ _ _ _ _ _ _) gA0 (by rfl) (by rfl) ?_;intro v2b gA o6;refine Hid.out ?_)
 replace k0:=k0.only o6 (by omega);replace k1:=k1.only o6 (by omega);replace k2:=k2.only o6 (by omega);replace hE:=hE.only o6 (by omega);replace hB:=hB.trans (o6.below (by omega));clear o6;clear gA0;refine Hid.mk ?_;obtain⟨bA,hbA⟩:∃x,v2.heap.size=x:=⟨_,rfl⟩;rw[hbA] at gA lAk0 lAk1 lAk2 lAB lAE ⊢;clear hbA;have r0:=Sl k0;have r1:=Sn k0;have ci:=So k0;have r2:=Sp k2;have cm:=Sq k2
 go_wp2_with (first|(refine Ae rfl (Ao rfl Af (by rfl) r0) ?_)|(refine Ae rfl (Ao rfl Af (by rfl) r1) ?_)|(refine Ae rfl (Ao rfl Ax (by rfl) r2) ?_)|(refine Aq Af k1 (by rfl) ?_))
 refine(h1r _ hE).mono ?_;rintro x v3 ⟨rfl,hb⟩;replace k0:=k0.kept hb;replace k1:=k1.kept hb;replace k2:=k2.kept hb;replace gA:=gA.kept hb;replace hE:=hE.kept hb;replace hB:=hB.trans (hb.mono hB.size);clear hb;clear r0 r1 ci r2 cm;have lBk0:=k0.lt;have lBk1:=k1.lt;have lBk2:=k2.lt;have lBgA:=gA.lt;have lBB:=hB.size;have lBE:=hE.two
 go_wp2_with (refine E9 ?_;intro v3a gB0 hb;refine Hid.out ?_)
 replace k0:=k0.kept hb;replace k1:=k1.kept hb;replace k2:=k2.kept hb;replace gA:=gA.kept hb;replace hE:=hE.kept hb;replace hB:=hB.trans (hb.mono hB.size);clear hb;refine Hid.mk ?_
 go_wp2_with (refine En AV (Bu _ _ _ _ _ _ _) gB0 (by rfl) (by rfl) ?_;intro v3b gB o6;refine Hid.out ?_)
 replace k0:=k0.only o6 (by omega);replace k1:=k1.only o6 (by omega);replace k2:=k2.only o6 (by omega);replace gA:=gA.only o6 (by omega);replace hE:=hE.only o6 (by omega);replace hB:=hB.trans (o6.below (by omega));clear o6;clear gB0;refine Hid.mk ?_;obtain⟨bB,hbB⟩:∃x,v3.heap.size=x:=⟨_,rfl⟩;rw[hbB] at gB lBk0 lBk1 lBk2 lBgA lBB lBE ⊢;clear hbB;have r0:=Sl k0;have r1:=Sn k0;have ci:=So k0;have r2:=Sp k2;have cm:=Sq k2
 go_wp2_with (first|(refine Ae rfl (Ao rfl Af (by rfl) r0) ?_)|(refine Ae rfl (Ao rfl Af (by rfl) r1) ?_)|(refine Ae rfl (Ao rfl Ax (by rfl) r2) ?_)|(refine Aq Af k1 (by rfl) ?_)|(refine Ae rfl (Es rfl AV gA (by rfl)) ?_)|(refine Ae rfl (Es rfl AV gB (by rfl)) ?_)|(refine Ae rfl (Z9 rfl (by rfl) (by rfl)) ?_))
 refine(h2 _ hE).mono ?_;rintro x v4 ⟨rfl,hb⟩;replace k0:=k0.kept hb;replace k1:=k1.kept hb;replace k2:=k2.kept hb;replace gA:=gA.kept hb;replace gB:=gB.kept hb;replace hE:=hE.kept hb;replace hB:=hB.trans (hb.mono hB.size);clear hb;clear r0 r1 ci r2 cm;have lDk0:=k0.lt;have lDk1:=k1.lt;have lDk2:=k2.lt;have lDgA:=gA.lt;have lDgB:=gB.lt;have lDB:=hB.size;have lDE:=hE.two
 go_wp2_with (refine E9 ?_;intro v4a gD0 hb;refine Hid.out ?_)
 replace k0:=k0.kept hb;replace k1:=k1.kept hb;replace k2:=k2.kept hb;replace gA:=gA.kept hb;replace gB:=gB.kept hb;replace hE:=hE.kept hb;replace hB:=hB.trans (hb.mono hB.size);clear hb;refine Hid.mk ?_;have lDx:=gD0.lt;have lDg1:=hB.size;have lDe1:=hE.two
 go_wp2_with (refine EX ?_;intro v4c gT0 hb;refine Hid.out ?_)
 replace k0:=k0.kept hb;replace k1:=k1.kept hb;replace k2:=k2.kept hb;replace gA:=gA.kept hb;replace gB:=gB.kept hb;replace gD0:=gD0.kept hb;replace hE:=hE.kept hb;replace hB:=hB.trans (hb.mono hB.size);clear hb;refine Hid.mk ?_
 go_wp2_with (refine En AV (Bu _ _ _ _ _ _ _) gD0 (by rfl) (by rfl) ?_;intro v4d gD o6;refine Hid.out ?_)
 replace gT0:=gT0.only o6 (by omega);replace k0:=k0.only o6 (by omega);replace k1:=k1.only o6 (by omega);replace k2:=k2.only o6 (by omega);replace gA:=gA.only o6 (by omega);replace gB:=gB.only o6 (by omega);replace hE:=hE.only o6 (by omega);replace hB:=hB.trans (o6.below (by omega));clear o6;clear gD0;refine Hid.mk ?_
 go_wp2_with (refine A1 Ax gT0 (by rfl) (by rfl) ?_;intro v4e gT o6;refine Hid.out ?_)
 replace k0:=k0.only o6 (by omega);replace k1:=k1.only o6 (by omega);replace k2:=k2.only o6 (by omega);replace gA:=gA.only o6 (by omega);replace gB:=gB.only o6 (by omega);replace gD:=gD.only o6 (by omega);replace hE:=hE.only o6 (by omega);replace hB:=hB.trans (o6.below (by omega));clear o6;clear gT0;refine Hid.mk ?_;obtain⟨bD,hbD⟩:∃x,v4.heap.size=x:=⟨_,rfl⟩;obtain⟨bT,hbT⟩:∃x,v4a.heap.size=x:=⟨_,rfl⟩;rw[hbD] at gD lDk0 lDk1 lDk2 lDgA lDgB lDB lDE lDx ⊢;rw[hbT] at gT lDx lDg1 lDe1 ⊢;clear hbD hbT;have r0:=Sl k0;have r1:=Sn k0;have ci:=So k0;have r2:=Sp k2;have cm:=Sq k2
 go_wp2_with (first|(refine Ae rfl (Ao rfl Af (by rfl) r0) ?_)|(refine Ae rfl (Ao rfl Af (by rfl) r1) ?_)|(refine Ae rfl (Ao rfl Ax (by rfl) r2) ?_)|(refine Aq Af k1 (by rfl) ?_))
 refine(h2r _ hE).mono ?_;rintro x v5 ⟨rfl,hb⟩;replace k0:=k0.kept hb;replace k1:=k1.kept hb;replace k2:=k2.kept hb;replace gA:=gA.kept hb;replace gB:=gB.kept hb;replace gD:=gD.kept hb;replace gT:=gT.kept hb;replace hE:=hE.kept hb;replace hB:=hB.trans (hb.mono hB.size);clear hb;clear r0 r1 ci r2 cm;have lFk0:=k0.lt;have lFk1:=k1.lt;have lFk2:=k2.lt;have lFgA:=gA.lt;have lFgB:=gB.lt;have lFgD:=gD.lt;have lFgT:=gT.lt;have lFB:=hB.size;have lFE:=hE.two
 go_wp2_with (refine E9 ?_;intro v5a gF0 hb;refine Hid.out ?_)
 replace k0:=k0.kept hb;replace k1:=k1.kept hb;replace k2:=k2.kept hb;replace gA:=gA.kept hb;replace gB:=gB.kept hb;replace gD:=gD.kept hb;replace gT:=gT.kept hb;replace hE:=hE.kept hb;replace hB:=hB.trans (hb.mono hB.size);clear hb;refine Hid.mk ?_;have lFx:=gF0.lt;have lFg1:=hB.size;have lFe1:=hE.two
 go_wp2_with (refine EX ?_;intro v5c gU0 hb;refine Hid.out ?_)
 replace k0:=k0.kept hb;replace k1:=k1.kept hb;replace k2:=k2.kept hb;replace gA:=gA.kept hb;replace gB:=gB.kept hb;replace gD:=gD.kept hb;replace gT:=gT.kept hb;replace gF0:=gF0.kept hb;replace hE:=hE.kept hb;replace hB:=hB.trans (hb.mono hB.size);clear hb;refine Hid.mk ?_
 go_wp2_with (refine En AV (Bu _ _ _ _ _ _ _) gF0 (by rfl) (by rfl) ?_;intro v5d gF o6;refine Hid.out ?_)
 replace gU0:=gU0.only o6 (by omega);replace k0:=k0.only o6 (by omega);replace k1:=k1.only o6 (by omega);replace k2:=k2.only o6 (by omega);replace gA:=gA.only o6 (by omega);replace gB:=gB.only o6 (by omega);replace gD:=gD.only o6 (by omega);replace gT:=gT.only o6 (by omega);replace hE:=hE.only o6 (by omega);replace hB:=hB.trans (o6.below (by omega));clear o6;clear gF0;refine Hid.mk ?_
 go_wp2_with (refine A1 Ax gU0 (by rfl) (by rfl) ?_;intro v5e gU o6;refine Hid.out ?_)
 replace k0:=k0.only o6 (by omega);replace k1:=k1.only o6 (by omega);replace k2:=k2.only o6 (by omega);replace gA:=gA.only o6 (by omega);replace gB:=gB.only o6 (by omega);replace gD:=gD.only o6 (by omega);replace gT:=gT.only o6 (by omega);replace gF:=gF.only o6 (by omega);replace hE:=hE.only o6 (by omega);replace hB:=hB.trans (o6.below (by omega));clear o6;clear gU0;refine Hid.mk ?_;obtain⟨bF,hbF⟩:∃x,v5.heap.size=x:=⟨_,rfl⟩;obtain⟨bU,hbU⟩:∃x,v5a.heap.size=x:=⟨_,rfl⟩;rw[hbF] at gF lFk0 lFk1 lFk2 lFgA lFgB lFgD lFgT lFB lFE lFx ⊢;rw[hbU] at gU lFx lFg1 lFe1 ⊢;clear hbF hbU
 go_wp2_with (first|(refine Ae rfl (Es rfl AV gD (by rfl)) ?_)|(refine Ae rfl (Es rfl AV gF (by rfl)) ?_)|(refine Ae rfl (ZA rfl (by rfl) (by rfl)) ?_)|(refine Ae rfl (AA rfl Ax gT (by rfl)) ?_)|(refine Ae rfl (AA rfl Ax gU (by rfl)) ?_)|(refine Ae rfl (ZY rfl underlying26 AaO (by rfl) (by rfl)) ?_))
 go_ret
 exact⟨rfl,hB⟩
theorem PK(A Ea Pk T:Nat→Int)(ia:Int)(m:ByteArray)(w:World)(hE:Env w)(hA:Byts 32 A)(hEa:Byts 32 Ea)(hPk:Byts 32 Pk)(hT:Byts 12 T)(hia:W32 ia):Calls prog 3 #[.agg (SC 65 (Iv A Ea ia)),.agg (WA .u8 32 Pk),.agg (SC 13 (JM m T))] w fun e w'=>e=.returned (.bool true)∧Below w.heap.size w w':=by
 have c1:=fun u hu=>U5 A Pk Ea T ia u hu hA hPk hEa hT
 have c1r:=fun (u:World) (_:Env u)=>QL A Pk Ea T ia u hA hPk hEa hT hia
 have c2:=fun u hu=>Re A m u hu hA
 have c2r:=fun (u:World) (_:Env u)=>PI A m u hA
 generalize Im (BT A)=Z2 at *;generalize Im Pk=Z1 at *;generalize F1=Z0 at *;obtain⟨M,H,C,D,R,Q,l,f,n,q1⟩:=XQ A Pk Ea T Z1 Z0 ia;obtain⟨H',C',D',R',Q',l',f',T',n',q2⟩:=XR A Z2 Z0 m;rw[q1] at c1 c1r;rw[q2] at c2 c2r;exact Rg A Ea Pk T ia m M H C D R Q H' C' D' R' Q' T' l f l' f' n n' w hE c1 c1r c2 c2r
end Go.Proofs.YthghcjepdhkfdaaGreatDoor
namespace Go.Proofs.YthghcjepdhkfdaaGreatDoor
open Go.ChangeShapes Go.WideShapes Go.ChangeAt Go.WideMaps Go.WideElems Go.RowKit Go.Proofs Go.Lib
end Go.Proofs.YthghcjepdhkfdaaGreatDoor
namespace Go.Proofs.YthghcjepdhkfdaaGreatDoor
open Go.ChangeShapes Go.WideShapes Go.ChangeAt Go.WideMaps Go.WideElems Go.RowKit Go.Proofs
open Tryz
theorem Jn{cs L:List Value}{o m:Nat}(h:(cs.drop o).take m=L)(j:Nat)(hj:j<m):cs[o+j]?=L[j]?:=by
 rw[←h,AcM,if_pos hj,List.getElem?_drop]
theorem JN{H:Type}{enc:TypeId×Value→H}{W:World}{base fuel:Nat}{sp:Nat→Bool}{hd:Bool}{t:TypeId}{n:Nat}{cs:List Value}{x:DataW H×List MemPlace}(ht:Tryz.prog.underlying t=some (.array n 5))(h:DataW.trod enc prog W base sp hd fuel t cs=some x)(hn:cs.length=n):∃s,Byts n s∧cs=AC .u8 n s∧x.2=[]:=by
 obtain⟨xs,m,_,hx,_,hl,hel⟩:=DataW.trod_array ht h
 have key:∀i,i<n→∃k:Int,cs[i]?=some (.int .u8 k)∧(0≤k∧k<256)∧∃dd,xs[i]?=some (dd,[]):=fun i hi=>by
  have hi':=hel i hi;rw[Jr] at hi';have hxs:i<xs.length:=by omega
  rw[Ac1 hxs] at hi';obtain⟨k,e1,e2,wk⟩:=DataW.trod_int underlying5 hi';have e3:=Jn e1 0 (by omega);have:=bounds_u8 wk;refine⟨k,by simpa using e3,by omega,⟨_,by rw[Ac1 hxs,e2]⟩⟩
 refine⟨fun i=>match cs[i]? with | some (.int .u8 k)=>k | _=>0,fun i hi=>?_,?_,?_⟩
 ·obtain⟨k,e,hb,_⟩:=key i hi
  simp only[e];exact hb
 ·refine List.ext_getElem? (fun i=>?_)
  by_cases hi:i<n
  ·obtain⟨k,e,hb,_⟩:=key i hi
   rw[BC .u8 n _ hi];simp only[e]
  ·rw[Ac7 (by omega),Ac7 (by rw[A3];omega)]
 ·rw[hx]
  apply List.flatMap_eq_nil_iff.2;intro y hxm;obtain⟨i,hi,rfl⟩:=List.getElem_of_mem hxm;obtain⟨_,_,_,dd,e⟩:=key i (by omega);rw[Ac1 hi] at e;rw[Option.some.inj e]
theorem ZB:Tryz.prog.cellsOf 26=12:=by kernel_rfl
theorem PL:Tryz.prog.cellsOf 22=32:=by kernel_rfl
theorem U7:Tryz.prog.cellsOf 23=1:=by kernel_rfl
theorem U8:Tryz.prog.cellsOf 9=1:=by kernel_rfl
theorem ZC:Tryz.prog.readableRec 25=true:=by kernel_rfl
theorem ZD:25<Tryz.prog.types.size:=of_decide_eq_true (by kernel_rfl)
theorem U9:Tryz.prog.cellsOf 25=65:=by kernel_rfl
theorem XS{n:Nat}{cs:Array Value}{V:Nat→Value}(hs:cs.size=n)(h:∀i,i<n→cs.toList[i]?=some (V i)):cs=SC n V:=by
 apply AcK;intro i
 by_cases hi:i<n
 ·rw[←Array.getElem?_toList,h i hi,Oi n V i hi]
 ·rw[Acv (by omega),Acv (by rw[CG];omega)]
theorem XT{cs:List Value}{o:Nat}{v:Value}(h:(cs.drop o).take 1=[v]):cs[o]?=some v:=by
 have:=Jn h 0 (by omega)
 simpa using this
theorem Rh:∃f0 f1 f2,Tryz.prog.underlying 25=some (.struct #[f0,f1,f2])∧f0.type=22∧f0.offset=0∧f1.type=22∧f1.offset=32∧f2.type=23∧f2.offset=64:=⟨_,_,_,underlying25,rfl,rfl,rfl,rfl,rfl,rfl⟩
section
variable {H:Type} {enc:TypeId×Value→H} {W:World} {base:Nat} {sp:Nat→Bool} {v:Value} {d:DataW H} {p:List MemPlace}
theorem XU(hv:Value.okWide prog W .any base 25 v)(h:DataW.Trod enc prog W 0 sp true 25 v d p):∃O E ix,Byts 32 O∧Byts 32 E∧W32 ix∧v=.agg (SC 65 (Iv O E ix))∧p=[]:=by
 obtain⟨f0,f1,f2,hu,t0,o0,t1,o1,t2,o2⟩:=Rh
 obtain⟨cs,rfl,hsz,_⟩:∃cs,v=.agg cs∧cs.size=Tryz.prog.cellsOf 25∧Row.okWide prog W .any base 25 cs:=by
  simpa [Value.okWide,hu] using hv
 rw[U9] at hsz;obtain⟨fuel,hf⟩:=h;obtain⟨xs,n,_,hx,_,hlen,hel⟩:=DataW.trod_struct hu hf;have hcs:(Value.agg cs).cells.toList=cs.toList:=rfl;rw[hcs] at hel;have hl65:cs.toList.length=65:=by simpa using hsz
 match xs,hlen with
 | [y0,y1,y2],_ =>
  have e0:=hel 0 f0 rfl;have e1:=hel 1 f1 rfl;have e2:=hel 2 f2 rfl;rw[t0,o0,PL] at e0;rw[t1,o1,PL] at e1;rw[t2,o2,U7] at e2;obtain⟨O,a0,b0,c0⟩:=JN underlying22 e0 (by rw[AcF,List.length_drop];omega);obtain⟨E,a1,b1,c1⟩:=JN underlying22 e1 (by rw[AcF,List.length_drop];omega);obtain⟨ix,b2,c2,w2⟩:=DataW.trod_int underlying23 e2;refine⟨O,E,ix,a0,a1,ZV w2,?_,?_⟩
  ·congr 1
   refine XS hsz (fun i hi=>?_);unfold Iv
   by_cases h1:i<32
   ·rw[if_pos h1]
    have:=Jn b0 i h1;rw[Acl,BC .u8 32 _ h1] at this;exact this
   ·rw[if_neg h1]
    by_cases h2:i<64
    ·rw[if_pos h2]
     have:=Jn b1 (i-32) (by omega);rw[show 32+(i-32)=i by omega,BC .u8 32 _ (by omega)] at this;exact this
    ·rw[if_neg h2]
     obtain rfl:i=64:=by omega
     exact XT b2
  ·simp only[Prod.mk.injEq] at hx
   rw[hx.2];simp[c0,c1,c2]
end
end Go.Proofs.YthghcjepdhkfdaaGreatDoor
namespace Go.Proofs.YthghcjepdhkfdaaGreatDoor
open Go.RowKit Go.Proofs
end Go.Proofs.YthghcjepdhkfdaaGreatDoor
namespace Go.Proofs.YthghcjepdhkfdaaGreatDoor
open Go.ChangeShapes Go.WideShapes Go.ChangeAt Go.WideMaps Go.WideElems Go.RowKit Go.Proofs
open Tryz
theorem ZE:Tryz.prog.readableRec 28=true:=by kernel_rfl
theorem ZF:28<Tryz.prog.types.size:=of_decide_eq_true (by kernel_rfl)
theorem UA:Tryz.prog.cellsOf 28=13:=by kernel_rfl
theorem Ri:∃f0 f1,Tryz.prog.underlying 28=some (.struct #[f0,f1])∧f0.type=9∧f0.offset=0∧f1.type=26∧f1.offset=1:=⟨_,_,underlying28,rfl,rfl,rfl,rfl⟩
section
variable {H:Type} {enc:TypeId×Value→H} {W:World} {base:Nat} {sp:Nat→Bool} {v:Value} {d:DataW H} {p:List MemPlace}
theorem XV(hv:Value.okWide prog W .any base 28 v)(h:DataW.Trod enc prog W 0 sp true 28 v d p):∃m S,Byts 12 S∧v=.agg (SC 13 (JM m S))∧p=[]:=by
 obtain⟨f0,f1,hu,t0,o0,t1,o1⟩:=Ri
 obtain⟨cs,rfl,hsz,_⟩:∃cs,v=.agg cs∧cs.size=Tryz.prog.cellsOf 28∧Row.okWide prog W .any base 28 cs:=by
  simpa [Value.okWide,hu] using hv
 rw[UA] at hsz;obtain⟨fuel,hf⟩:=h;obtain⟨xs,n,_,hx,_,hlen,hel⟩:=DataW.trod_struct hu hf;have hcs:(Value.agg cs).cells.toList=cs.toList:=rfl;rw[hcs] at hel;have hl:cs.toList.length=13:=by simpa using hsz
 match xs,hlen with
 | [y0,y1],_ =>
  have e0:=hel 0 f0 rfl;have e1:=hel 1 f1 rfl;rw[t0,o0,U8] at e0;rw[t1,o1,ZB] at e1;obtain⟨m,b0,c0,_⟩:=DataW.trod_string underlying9 e0;obtain⟨S,a1,b1,c1⟩:=JN underlying26 e1 (by rw[AcF,List.length_drop];omega);refine⟨m,S,a1,?_,?_⟩
  ·congr 1
   refine XS hsz (fun i hi=>?_);unfold JM
   by_cases h1:i<1
   ·rw[if_pos h1]
    obtain rfl:i=0:=by omega
    exact XT b0
   ·rw[if_neg h1]
    have:=Jn b1 (i-1) (by omega);rw[show 1+(i-1)=i by omega,BC .u8 12 _ (by omega)] at this;exact this
  ·simp only[Prod.mk.injEq] at hx
   rw[hx.2];simp[c0,c1]
end
end Go.Proofs.YthghcjepdhkfdaaGreatDoor
