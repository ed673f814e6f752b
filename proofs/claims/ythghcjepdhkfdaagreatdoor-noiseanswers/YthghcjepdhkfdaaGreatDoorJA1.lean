/-
  Own text. A region that leaves its order open and in which several operations act (calls, new rows): each operation is walked once, whatever came before it: behind operation i its slot holds a value of which phi i is known, and what acts keeps all that is known. No program is named here.
-/
import Derived.Orders
import Derived.Laws.World
import Derived.Test.YthghcjepdhkfdaaGreatDoorProg
import Derived.WalkKit
import Derived.WalkSpells
import Derived.WalkLawsBesides
import Derived.Laws.Externs
import Derived.Laws.MathBits
import Derived.Deep.RegionWith
import Derived.Deep.MidRow
import Derived.Deep.LoopGhost
import Derived.OwnWalk
import Derived.Laws.BitsAll
import Derived.OpenShut
import Derived.Lib.BufferMore
import Derived.Lib.SlBytesConst
import Derived.ArgAppend
import Derived.Laws.CopyOwn
import Derived.ChangeKeysEq
import Derived.Lib.LazyBuf
import Derived.Laws.IdiomStrings
import Derived.Lib.UnsafeStr
import Derived.SizedLaws
import Derived.ProofKit
import Derived.Stop.Joined
import Derived.Lib.AppendStr
import Derived.Laws.BytesArg
import Derived.Laws.AppendOwnNone
set_option maxHeartbeats 16000000
set_option maxRecDepth 100000
open Array renaming ext_getElem?→Adh,getD_eq_getD_getElem?→Ado,getElem?_append_left→Adg,getElem?_eq_getElem→AcN,getElem?_eq_none→AcI,getElem?_setIfInBounds→Adf,mem_of_getElem?→Adm
open Bool renaming and_eq_true→AcB
open Int renaming eq_ofNat_of_zero_le→AcQ,mul_comm→AcL,toNat_natCast→AcZ
open List renaming getD_eq_getElem?_getD→Ade,getElem?_eq_getElem→AcP,getElem?_eq_none→AcV,getElem?_map→Adi,getElem?_take→Adj,length_cons→Ada,map_cons→AcG,map_nil→AcD,map_toArray→AcH,range→AcA
open Nat renaming add_zero→AcU,le_refl→Ac4,le_trans→AcE,lt_of_lt_of_le→Adb,lt_or_ge→AcS,zero_add→Ac9
namespace Go.Proofs.YthghcjepdhkfdaaGreatDoor
open Go
section
variable {P:Program} {ops:Array Oper} {Q:Exit→Act→World→Prop}
def Hz(ops:Array Oper)(listed:Array Bool):Nat:=((AcA ops.size).filter fun j=>!listed.getD j true).length
theorem Mq{p q:Nat→Bool}(h:∀j,p j=true→q j=true):∀l:List Nat,(l.filter p).length≤(l.filter q).length
 | []=>by simp
 | x::l=>by
  have ih:=Mq h l
  cases hp:p x with
  | true=>rw[List.filter_cons_of_pos hp,List.filter_cons_of_pos (h x hp)];simpa using ih
  | false =>
   rw[List.filter_cons_of_neg (by simp[hp])]
   cases hq:q x with
   | true=>rw[List.filter_cons_of_pos hq];simp;omega
   | false=>rw[List.filter_cons_of_neg (by simp[hq])];exact ih
theorem Mr{p q:Nat→Bool}{i:Nat}(h:∀j,p j=true→q j=true)(hp:p i=false)(hq:q i=true):∀l:List Nat,i∈l→(l.filter p).length+1≤(l.filter q).length
 | [],hl=>by cases hl
 | x::l,hl=>by
  by_cases hx:i=x
  ·subst hx
   rw[List.filter_cons_of_neg (by simp[hp]),List.filter_cons_of_pos hq];have:=Mq h l;simp only[Ada];omega
  ·have hm:i∈l:=by
    rcases List.mem_cons.1 hl with h | h
    ·exact absurd h hx
    ·exact h
   have ih:=Mr h hp hq l hm
   cases hpx:p x with
   | true=>rw[List.filter_cons_of_pos hpx,List.filter_cons_of_pos (h x hpx)];simp only[Ada];omega
   | false =>
    rw[List.filter_cons_of_neg (by simp[hpx])]
    cases hqx:q x with
    | true=>rw[List.filter_cons_of_pos hqx];simp only[Ada];omega
    | false=>rw[List.filter_cons_of_neg (by simp[hqx])];exact ih
theorem K5{listed:Array Bool}{i:Nat}(hi:i∈Region.ready .any ops listed):Hz ops (listed.setIfInBounds i true)+1≤Hz ops listed:=by
 obtain⟨hun,oi,hoi,_⟩:=mem_ready.1 hi;have hlt:i<ops.size:=(Array.getElem?_eq_some_iff.1 hoi).1
 have hls:i<listed.size:=by
  rcases AcS i listed.size with h | h
  ·exact h
  ·simp[AcI h] at hun
 have hset:(listed.setIfInBounds i true).getD i true=true:=by simp[hls]
 refine Mr (fun j hj=>?_) (by rw[hset];rfl) (by rw[hun];rfl) _ (List.mem_range.2 hlt)
 by_cases hij:i=j
 ·subst hij;rw[hset] at hj;cases hj
 ·rw[getD_set_ne true hij] at hj;exact hj
theorem Fw(I:Array Bool→Act→World→Prop)(step:∀listed a w i,I listed a w→i∈Region.ready .any ops listed→wpOp P ops Q i (fun a' w'=>I (listed.setIfInBounds i true) a' w') a w)(fin:∀listed a w,I listed a w→Region.ready .any ops listed=[]→Q .normal a w):∀(fuel:Nat) (listed:Array Bool) (a:Act) (w:World),Hz ops listed≤fuel→I listed a w→wpAny P .any ops Q fuel listed a w
 | 0,listed,a,w,hf,h=>by
  have hr:Region.ready .any ops listed=[]:=by
   cases hr:Region.ready .any ops listed with
   | nil=>rfl
   | cons i l =>
    have:=K5 (ops:=ops) (listed:=listed) (i:=i) (by rw[hr];simp);omega
  exact⟨hr,fin listed a w h hr⟩
 | fuel+1,listed,a,w,hf,h =>
  ⟨fun hr=>fin listed a w h hr,fun i hi=>wpOp_mono (fun a' w' h'=>Fw I step fin fuel _ a' w' (by have:=K5 hi;omega) h') (step listed a w i h hi)⟩
def Db(o:Oper)(j:Nat):Bool:=o.after.any fun e=>Region.binds .any e && e.on==j
def CK(ops:Array Oper):List Nat:=ops.toList.filterMap (·.dst)
def Aaj(ops:Array Oper):Bool:=
 ops.toList.all (fun o=>o.dst.isSome) && decide (CK ops).Nodup &&
 (AcA ops.size).all (fun i=>match ops[i]? with
  | some o=>o.after.all (fun e=>!Region.binds .any e || decide (e.on<i))
  | none=>true)
def Ap(a:Act)(vs:Nat→Value):List Nat→Act
 | []=>a
 | d::l=>Ap (a.put (some d) (vs d)) vs l
theorem DW(vs:Nat→Value):∀(l:List Nat) (a:Act),(Ap a vs l).defers=a.defers
 | [],_=>rfl
 | _::l,a=>by simp only[Ap];rw[DW vs l];rfl
theorem Fh(vs:Nat→Value):∀(l:List Nat) (a:Act),(Ap a vs l).tmps.size=a.tmps.size
 | [],_=>rfl
 | _::l,a=>by simp only[Ap];rw[Fh vs l];simp[Act.put]
theorem EM(vs:Nat→Value):∀(l:List Nat) (a:Act) (t:Nat),t<a.tmps.size→(Ap a vs l).tmps[t]?=if t∈l then some (vs t) else a.tmps[t]?
 | [],_,_,_=>by simp[Ap]
 | d::l,a,t,ht=>by
  simp only[Ap];rw[EM vs l _ t (by simpa [Act.put] using ht)]
  by_cases h1:t∈l
  ·simp[h1]
  ·by_cases h2:d=t
   ·subst h2;simp[h1,Act.put,ht]
   ·have h3:¬t=d:=fun h=>h2 h.symm
    simp[h1,h3,Act.put,h2]
structure Mid (ops:Array Oper) (a0:Act) (S:World→Prop) (φ:Nat→Value→World→Prop) (listed:Array Bool) (a:Act) (w:World):Prop where
 lsize:listed.size=ops.size
 closed:∀(j:Nat) (oj:Oper),ops[j]?=some oj→listed.getD j false=true→∀e∈oj.after,Region.binds .any e=true→listed.getD e.on false=true
 size:a.tmps.size=a0.tmps.size
 defers:a.defers=a0.defers
 world:S w
 frame:∀t:Nat,(∀(i:Nat) (o:Oper),ops[i]?=some o→listed.getD i false=true→o.dst≠some t)→a.tmps[t]?=a0.tmps[t]?
 known:∀(i:Nat) (o:Oper) (d:Nat),ops[i]?=some o→o.dst=some d→listed.getD i false=true→φ i (a.tmps.getD d undef) w
theorem Bq(m j:Nat):(Array.replicate m false).getD j false=false:=by
 rcases AcS j m with h | h
 ·simp[h]
 ·simp[h]
theorem Dc{listed:Array Bool}{i j:Nat}(h:(listed.setIfInBounds i true).getD j false=true):j=i∨listed.getD j false=true:=by
 by_cases hij:i=j
 ·exact Or.inl hij.symm
 ·rw[getD_set_ne false hij] at h;exact Or.inr h
theorem Jj(h:(CK ops).Nodup){i j:Nat}{oi oj:Oper}{d:Nat}(hi:ops[i]?=some oi)(hj:ops[j]?=some oj)(di:oi.dst=some d)(dj:oj.dst=some d):i=j:=by
 have key:∀(l:List Oper),(l.filterMap (·.dst)).Nodup→∀(i j:Nat),l[i]?=some oi→l[j]?=some oj→i=j:=by
  intro l
  induction l with
  | nil=>intro _ i j h;simp at h
  | cons o l ih =>
   intro hn i j h1 h2;have mem:∀(k:Nat) (o':Oper),l[k]?=some o'→o'.dst=some d→d∈l.filterMap (·.dst):=fun k o' hk hd=>List.mem_filterMap.2 ⟨o',List.mem_of_getElem? hk,hd⟩
   cases i with
   | zero =>
    cases j with
    | zero=>rfl
    | succ j =>
     simp at h1 h2;subst h1;rw[List.filterMap_cons,di] at hn;exact absurd (mem j oj h2 dj) (List.nodup_cons.1 hn).1
   | succ i =>
    cases j with
    | zero =>
     simp at h1 h2;subst h2;rw[List.filterMap_cons,dj] at hn;exact absurd (mem i oi h1 di) (List.nodup_cons.1 hn).1
    | succ j =>
     simp at h1 h2
     have hn':(l.filterMap (·.dst)).Nodup:=by
      rw[List.filterMap_cons] at hn
      cases ho:o.dst with
      | none=>rw[ho] at hn;exact hn
      | some x=>rw[ho] at hn;exact(List.nodup_cons.1 hn).2
     rw[ih hn' i j h1 h2]
 exact key ops.toList h i j (by simpa using hi) (by simpa using hj)
theorem Ma{id:Nat}{a0:Act}{w0:World}(S:World→Prop)(R:World→World→Prop)(φ:Nat→Value→World→Prop)(hm:P.follows .mixedOrders=true)(hB:Aaj ops=true)(hS0:S w0.drew)(hSR:∀w w',S w→R w w'→S w')(hφ:∀i v w w',φ i v w→R w w'→φ i v w')(step:∀(i:Nat) (o:Oper),ops[i]?=some o→∀(a:Act) (w:World),S w→(∀t:Nat,(∀(j:Nat) (oj:Oper),ops[j]?=some oj→oj.dst=some t→Db oj i=true)→a.tmps[t]?=a0.tmps[t]?) →(∀(j:Nat) (oj:Oper) (d:Nat),ops[j]?=some oj→oj.dst=some d→Db o j=true→φ j (a.tmps.getD d undef) w) →wpOp P ops Q i (fun a' w'=>∃v,a'=a.put o.dst v∧φ i v w'∧R w w') a w)(fin:∀(vs:Nat→Value) (w:World),S w→(∀(i:Nat) (o:Oper) (d:Nat),ops[i]?=some o→o.dst=some d→φ i (vs d) w)→Q .normal (Ap a0 vs (CK ops)) w)(hsz:∀d∈CK ops,d<a0.tmps.size):(Code.region id ops true).wp P Q a0 w0:=by
 simp only[Aaj,AcB,decide_eq_true_eq] at hB;obtain⟨⟨hsome,hnd⟩,hord⟩:=hB;refine wp_region_any hm (Fw (Mid ops a0 S φ) ?_ ?_ ops.size _ a0 _ ?_ ?_)
 ·intro listed a w i mid hi
  obtain⟨hun,oi,hoi,hall⟩:=mem_ready.1 hi
  have hils:i<listed.size:=by
   rcases AcS i listed.size with h | h
   ·exact h
   ·simp[AcI h] at hun
  have hunf:listed.getD i false=false:=by simp[hils] at hun ⊢;exact hun
  have hst:=step i oi hoi a w mid.world
   (fun t ht=>mid.frame t (fun j oj hj hl hd=>by
    obtain⟨e,he,hb⟩:=Array.any_eq_true'.1 (ht j oj hj hd);simp only[AcB,beq_iff_eq] at hb;have:=mid.closed j oj hj hl e he hb.1;rw[hb.2,hunf] at this;cases this))
   (fun j oj d hj hd hp=>by
    obtain⟨e,he,hb⟩:=Array.any_eq_true'.1 hp;simp only[AcB,beq_iff_eq] at hb;have:=hall e he hb.1;rw[hb.2] at this;exact mid.known j oj d hj hd this)
  refine wpOp_mono (fun a' w' h'=>?_) hst;obtain⟨v,rfl,hv,hR⟩:=h';have hsi:oi.dst.isSome=true:=List.all_eq_true.1 hsome oi (by simpa using Adm hoi);obtain⟨di,hdi⟩:=Option.isSome_iff_exists.1 hsi;have hmem:di∈CK ops:=List.mem_filterMap.2 ⟨oi,by simpa using Adm hoi,hdi⟩;have hdlt:di<a.tmps.size:=by rw[mid.size];exact hsz di hmem
  have hself:(listed.setIfInBounds i true).getD i false=true:=by simp[hils]
  rw[hdi];refine⟨by simp[mid.lsize],fun j oj hj hl e he hb=>?_,by simpa [Act.put] using mid.size,mid.defers,hSR w w' mid.world hR,fun t ht=>?_,fun j oj d hj hd hl=>?_⟩
  ·rcases Dc hl with rfl | hl
   ·obtain rfl:oj=oi:=Option.some.inj (hj.symm.trans hoi)
    have h1:=hall e he hb
    by_cases hie:j=e.on
    ·rw[hie];rw[hie] at hself;exact hself
    ·rw[getD_set_ne false hie];exact h1
   ·have h1:=mid.closed j oj hj hl e he hb
    by_cases hie:i=e.on
    ·rw[←hie];exact hself
    ·rw[getD_set_ne false hie];exact h1
  ·have hne:di≠t:=fun h=>ht i oi hoi hself (by rw[hdi,h])
   rw[show (a.put (some di) v).tmps[t]?=a.tmps[t]? from by simp[Act.put,hne]]
   exact mid.frame t (fun j oj hj hl=>ht j oj hj (by
    by_cases hij:i=j
    ·subst hij;exact hself
    ·rw[getD_set_ne false hij];exact hl))
  ·rcases Dc hl with rfl | hl
   ·obtain rfl:oj=oi:=Option.some.inj (hj.symm.trans hoi)
    obtain rfl:d=di:=Option.some.inj (hd.symm.trans hdi);rw[show (a.put (some d) v).tmps.getD d undef=v from by simp[Act.put,hdlt]];exact hv
   ·have hne:di≠d:=fun h=>by
     subst h;have:=Jj hnd hoi hj hdi hd;subst this;rw[hunf] at hl;cases hl
    rw[show (a.put (some di) v).tmps.getD d undef=a.tmps.getD d undef from by simp[Act.put,hne]];exact hφ j _ w w' (mid.known j oj d hj hd hl) hR
 ·intro listed a w mid hr
  have hall:∀n i,i<n→i<ops.size→listed.getD i false=true:=by
   intro n
   induction n with
   | zero=>intro i h;cases h
   | succ n ih =>
    intro i hin hil
    by_cases hlt:i<n
    ·exact ih i hlt hil
    ·have hin':i=n:=by omega
     subst hin'
     cases hg:listed.getD i false with
     | true=>rfl
     | false =>
      have ho:ops[i]?=some ops[i]:=AcN hil;have h1:=List.all_eq_true.1 hord i (List.mem_range.2 hil);simp only[ho] at h1
      have hin2:i∈Region.ready .any ops listed:=mem_ready.2 ⟨by
       have:i<listed.size:=by rw[mid.lsize];exact hil
       simp[this] at hg ⊢;exact hg,_,ho,fun e he hb=>by
       have h2:=Array.all_eq_true'.1 h1 e he;simp only[hb,Bool.not_true,Bool.false_or,decide_eq_true_eq] at h2;exact ih e.on h2 (by omega)⟩
      rw[hr] at hin2;cases hin2
  have hq:=fin (fun d=>a.tmps.getD d undef) w mid.world (fun i o d ho hd=>mid.known i o d ho hd (hall (i+1) i (by omega) (Array.getElem?_eq_some_iff.1 ho).1))
  have ha:Ap a0 (fun d=>a.tmps.getD d undef) (CK ops)=a:=by
   have h1:=DW (fun d=>a.tmps.getD d undef) (CK ops) a0
   have h2:(Ap a0 (fun d=>a.tmps.getD d undef) (CK ops)).tmps=a.tmps:=by
    apply Adh;intro t
    by_cases ht:t<a0.tmps.size
    ·rw[EM _ _ _ _ ht]
     by_cases hm2:t∈CK ops
     ·rw[if_pos hm2]
      have:t<a.tmps.size:=by rw[mid.size];exact ht
      simp[this]
     ·rw[if_neg hm2]
      exact(mid.frame t (fun i o hi _ hd=>hm2 (List.mem_filterMap.2 ⟨o,by simpa using Adm hi,hd⟩))).symm
    ·rw[AcI (by rw[Fh];omega),AcI (by rw[mid.size];omega)]
   rw[←mid.defers] at h1;generalize Ap a0 (fun d=>a.tmps.getD d undef) (CK ops)=b at h1 h2;cases a;cases b;simp only at h1 h2;rw[h1,h2]
  rw[ha] at hq;exact hq
 ·unfold Hz
  exact AcE (List.length_filter_le _ _) (by simp)
 ·exact⟨by simp,fun j oj _ hl=>(by rw[Bq] at hl;cases hl),rfl,rfl,hS0,fun _ _=>rfl,fun i o d _ _ hl=>(by rw[Bq] at hl;cases hl)⟩
def Gr(a:Act):List (Nat×Value)→Prop
 | []=>True
 | x::l=>a.eval (.tmp x.1)=x.2∧Gr a l
def UN(φ:Nat→Value→World→Prop)(ds:List Nat)(a:Act)(w:World):List Nat→Prop
 | []=>True
 | j::l=>φ j (a.eval (.tmp (ds.getD j 0))) w∧UN φ ds a w l
def UO(P:Program)(S:World→Prop)(R:World→World→Prop)(φ:Nat→Value→World→Prop)(ds:List Nat)(base:List (Nat×Value))(p:List Nat)(k:Nat)(o:Oper):Prop:=
 ∀(Q:Exit→Act→World→Prop) (a:Act) (w:World),S w→Gr a base→UN φ ds a w p →
  (match o.guard with | none=>True | some (g,b)=>a.eval (.tmp (ds.getD g 0))=.bool b) ∧
  ∀K:Act→World→Prop,(∀v w',φ k v w'→R w w'→K (a.put o.dst v) w')→o.wp P a w K Q
def AllSteps(P:Program)(S:World→Prop)(R:World→World→Prop)(φ:Nat→Value→World→Prop)(ds:List Nat)(base:List (Nat×Value)):List (List Nat)→Nat→List Oper→Prop
 | _,_,[]=>True
 | p,k,o::l=>UO P S R φ ds base (p.headD []) k o∧AllSteps P S R φ ds base p.tail (k+1) l
theorem AllSteps.at{S:World→Prop}{R:World→World→Prop}{φ:Nat→Value→World→Prop}{ds:List Nat}{base:List (Nat×Value)}:∀(l:List Oper) (p:List (List Nat)) (k:Nat),AllSteps P S R φ ds base p k l →∀(i:Nat) (o:Oper),l[i]?=some o→UO P S R φ ds base (p.getD i []) (k+i) o
 | [],_,_,_,_,_,h=>by simp at h
 | x::l,p,k,h,i,o,ho=>by
  cases i with
  | zero =>
   simp at ho;subst ho;have:=h.1;cases p<;>simpa using this
  | succ i =>
   simp at ho;have:=AllSteps.at l p.tail (k+1) h.2 i o ho;rw[show k+1+i=k+(i+1) by omega] at this;cases p<;>simpa using this
def Abi(ops:Array Oper)(ds:List Nat)(base:List Nat)(p:List (List Nat)):Bool:=
 (ops.toList.map (·.dst)==ds.map some) && base.all (fun t=>!ds.contains t) &&
 (AcA ops.size).all (fun k=>match ops[k]? with
  | some o=>(p.getD k []).all (fun j=>Db o j && decide (j<ops.size)) && (match o.guard with | some (g,_)=>decide (g<ops.size) | none=>true)
  | none=>true)
theorem Gt{a a0:Act}{t:Nat}(h:a.tmps[t]?=a0.tmps[t]?):a.eval (.tmp t)=a0.eval (.tmp t):=by
 simp only[Act.eval];rw[Ado,Ado,h]
theorem Iv{a a0:Act}:∀(l:List (Nat×Value)),(∀t∈l.map (·.1),a.eval (.tmp t)=a0.eval (.tmp t))→Gr a0 l→Gr a l
 | [],_,_=>trivial
 | x::l,h,h0=>⟨(h x.1 (by simp)).trans h0.1,Iv l (fun t ht=>h t (by simp at ht ⊢;exact Or.inr ht)) h0.2⟩
theorem K6{φ:Nat→Value→World→Prop}{ds:List Nat}{a:Act}{w:World}:∀(l:List Nat),(∀j∈l,φ j (a.eval (.tmp (ds.getD j 0))) w)→UN φ ds a w l
 | [],_=>trivial
 | x::l,h=>⟨h x (by simp),K6 l (fun j hj=>h j (by simp[hj]))⟩
theorem Kj{id:Nat}{a0:Act}{w0:World}(S:World→Prop)(R:World→World→Prop)(φ:Nat→Value→World→Prop)(ds:List Nat)(base:List (Nat×Value))(p:List (List Nat))(hm:P.follows .mixedOrders=true)(hB:(Aaj ops && Abi ops ds (base.map (·.1)) p && ds.all (fun d=>decide (d<a0.tmps.size)))=true)(hb0:Gr a0 base)(hS0:S w0.drew)(hSR:∀w w',S w→R w w'→S w')(hφ:∀i v w w',φ i v w→R w w'→φ i v w')(steps:AllSteps P S R φ ds base p 0 ops.toList)(fin:∀(vs:Nat→Value) (w:World),S w→(∀j:Nat,j<ds.length→φ j (vs (ds.getD j 0)) w)→Q .normal (Ap a0 vs ds) w):(Code.region id ops true).wp P Q a0 w0:=by
 simp only[AcB] at hB;obtain⟨⟨hI,hT⟩,hsz⟩:=hB;simp only[Abi,AcB,beq_iff_eq] at hT;obtain⟨⟨hds,hbase⟩,htab⟩:=hT
 have hdst:∀(j:Nat) (oj:Oper),ops[j]?=some oj→oj.dst=some (ds.getD j 0)∧j<ds.length:=fun j oj hj=>by
  have h1:(ops.toList.map (·.dst))[j]?=some oj.dst:=by rw[Adi];simp[hj]
  rw[hds,Adi] at h1
  cases hq:ds[j]? with
  | none=>rw[hq] at h1;simp at h1
  | some d =>
   rw[hq] at h1;have hl:j<ds.length:=(List.getElem?_eq_some_iff.1 hq).1;refine⟨?_,hl⟩;rw[Ade,hq]
   simpa using h1.symm
 have hdsts:CK ops=ds:=by
  unfold CK;have h1:ops.toList.filterMap (·.dst)=(ops.toList.map (·.dst)).filterMap (fun x=>x):=by rw[List.filterMap_map];rfl
  rw[h1,hds,List.filterMap_map];exact List.filterMap_some
 refine Ma S R φ hm hI hS0 hSR hφ (fun i o hi a w hS hfr hkn=>?_) (fun vs w hS h=>?_) (fun d hd=>by rw[hdsts] at hd;simpa using List.all_eq_true.1 hsz d hd)
 ·have hil:i<ops.size:=(Array.getElem?_eq_some_iff.1 hi).1
  have ht:=List.all_eq_true.1 htab i (List.mem_range.2 hil);simp only[hi,AcB] at ht;have st:=AllSteps.at ops.toList p 0 steps i o (by simpa using hi);rw[Ac9] at st;obtain⟨hg,hk⟩:=st Q a w hS
   (Iv base (fun t htm=>Gt (hfr t (fun j oj hj hd=>by
    exfalso;have h1:=List.all_eq_true.1 hbase t htm;have h2:=(hdst j oj hj).1;rw[hd] at h2;have h3:t=ds.getD j 0:=Option.some.inj h2
    have h4:t∈ds:=by
     rw[h3,Ade,AcP (hdst j oj hj).2];simp
    simp[h4] at h1))) hb0)
   (K6 _ (fun j hj=>by
    have h1:=List.all_eq_true.1 ht.1 j hj;simp only[AcB,decide_eq_true_eq] at h1;have hoj:ops[j]?=some ops[j]:=AcN h1.2;have h2:=hkn j _ _ hoj (hdst j _ hoj).1 h1.1
    simpa [Act.eval] using h2))
  have hw:Region.wanted o (yielded ops a.tmps)=true:=by
   unfold Region.wanted
   cases hgd:o.guard with
   | none=>rfl
   | some x =>
    obtain⟨g,b⟩:=x;rw[hgd] at hg;have h2:=ht.2;rw[hgd] at h2;simp only[decide_eq_true_eq] at h2;have hog:ops[g]?=some ops[g]:=AcN h2;have hd:=(hdst g _ hog).1
    have h4:a.tmps[ds.getD g 0]?=some (.bool b):=by
     simp only[Act.eval] at hg;rw[Ado] at hg
     cases hq:a.tmps[ds.getD g 0]? with
     | none=>rw[hq] at hg;simp[undef] at hg
     | some v=>rw[hq] at hg;simpa using hg
    have hy:yielded ops a.tmps g=some b:=by
     unfold yielded;rw[hog];simp only[Option.bind_some,hd,h4]
    simp[hy]
  unfold wpOp;simp only[hi,hw,if_true];exact .inl (hk _ (fun v w' h1 h2=>⟨v,rfl,h1,h2⟩))
 ·rw[hdsts]
  refine fin vs w hS (fun j hj=>?_);have hlen:ops.toList.length=ds.length:=by have:=congrArg List.length hds;simpa using this
  have hjl:j<ops.size:=by rw[←hlen] at hj;simpa using hj
  have hoj:ops[j]?=some ops[j]:=AcN hjl;exact h j _ _ hoj (hdst j _ hoj).1
theorem AR{o:Oper}{a:Act}{w:World}{v:Value}{K:Act→World→Prop}(hr:(execOp a.eval o).run P w=.ok (.value v) w)(h:K (a.put o.dst v) w):o.wp P a w K Q:=by
 unfold Oper.wp;rw[hr];exact h
theorem Gu{o:Oper}{a:Act}{w:World}{f:FuncId}{args:Array Value}{K:Act→World→Prop}(hr:(execOp a.eval o).run P w=.ok (.enter f args) w)(h:Calls P f args w fun e w'=>∃v,e=.returned v∧K (a.put o.dst v) w'):o.wp P a w K Q:=by
 unfold Oper.wp;rw[hr];exact h.mono (fun e w' ⟨v,he,hk⟩=>by subst he;exact hk)
end
section
variable {P:Program} {ops:Array Oper} {Q:Exit→Act→World→Prop}
structure Touch (T:Nat→Prop) (w w':World):Prop where
 os:w'.os=w.os
 tape:w'.tape=w.tape
 output:w'.output=w.output
 size:w.heap.size≤w'.heap.size
 block:∀k,k<w.heap.size→¬T k→w'.heap[k]?=w.heap[k]?
theorem Touch.refl(T:Nat→Prop)(w:World):Touch T w w:=⟨rfl,rfl,rfl,Ac4 _,fun _ _ _=>rfl⟩
theorem Touch.mono{T T':Nat→Prop}{w w':World}(h:Touch T w w')(ht:∀k,k<w.heap.size→T k→T' k):Touch T' w w':=⟨h.os,h.tape,h.output,h.size,fun k hk hn=>h.block k hk (fun h=>hn (ht k hk h))⟩
structure Cont where
 first:Obj→Prop
 stores:List (Nat×(Obj→Prop))
def Cont.at(c:Cont)(L:Nat→Bool):Obj→Prop:=c.stores.foldl (fun acc x=>if L x.1 then x.2 else acc) c.first
def Cont.stage(c:Cont)(k:Nat):Obj→Prop:=(c.stores.take k).foldl (fun _ x=>x.2) c.first
theorem K7{L:Nat→Bool}:∀(l:List (Nat×(Obj→Prop))) (f:Obj→Prop),(∀x∈l,L x.1=true)→l.foldl (fun acc x=>if L x.1 then x.2 else acc) f=l.foldl (fun _ x=>x.2) f
 | [],_,_=>rfl
 | x::l,f,h=>by
  simp only[List.foldl_cons,h x (by simp),if_true];exact K7 l _ (fun y hy=>h y (by simp[hy]))
theorem JI{L:Nat→Bool}:∀(l:List (Nat×(Obj→Prop))) (f:Obj→Prop),(∀x∈l,L x.1=false)→l.foldl (fun acc x=>if L x.1 then x.2 else acc) f=f
 | [],_,_=>rfl
 | x::l,f,h=>by
  simp only[List.foldl_cons,h x (by simp),Bool.false_eq_true,if_false];exact JI l _ (fun y hy=>h y (by simp[hy]))
theorem Cont.at_stage{c:Cont}{L:Nat→Bool}(k:Nat)(h1:∀s∈(c.stores.map (·.1)).take k,L s=true)(h2:∀s∈(c.stores.map (·.1)).drop k,L s=false):c.at L=c.stage k:=by
 unfold Cont.at Cont.stage;have e:c.stores=c.stores.take k++c.stores.drop k:=(List.take_append_drop k _).symm;rw[←List.map_take] at h1;rw[←List.map_drop] at h2
 conv=>lhs;rw[e,List.foldl_append]
 rw[K7 _ _ (fun x hx=>h1 x.1 (List.mem_map_of_mem hx)),JI _ _ (fun x hx=>h2 x.1 (List.mem_map_of_mem hx))]
theorem Cont.at_congr{c:Cont}{L L':Nat→Bool}(h:∀s∈c.stores.map (·.1),L' s=L s):c.at L'=c.at L:=by
 unfold Cont.at
 have key:∀(l:List (Nat×(Obj→Prop))) (f:Obj→Prop),(∀x∈l,L' x.1=L x.1)→l.foldl (fun acc x=>if L' x.1 then x.2 else acc) f=l.foldl (fun acc x=>if L x.1 then x.2 else acc) f:=by
  intro l
  induction l with
  | nil=>intro f _;rfl
  | cons x l ih=>intro f h;simp only[List.foldl_cons,h x (by simp)];exact ih _ (fun y hy=>h y (by simp[hy]))
 exact key _ _ (fun x hx=>h x.1 (List.mem_map_of_mem hx))
inductive Kw where
 | val (p:Value→Prop)
 | new (rel:Nat→Value→Prop) (c:Cont)
def Kw.isNew:Kw→Bool
 | .val _=>false
 | .new _ _=>true
def Kw.sts:Kw→List Nat
 | .val _=>[]
 | .new _ c=>c.stores.map (·.1)
inductive Tg where
 | none
 | own (j k:Nat)
 | base (x k:Nat)
inductive Wt where
 | slot (j:Nat)
 | cont (j k:Nat)
 | base (x k:Nat)
def kwAt(kn:List Kw)(j:Nat):Kw:=kn.getD j (.val fun _=>True)
def Jk(ds:List (Option Nat))(j:Nat):Nat:=(ds.getD j none).getD 0
def ContOK(c:Obj→Prop)(w:World)(b:Nat):Prop:=∃ob,w.heap[b]?=some ob∧c ob
def Ol(B:Nat)(G:List (Nat×Cont))(kn:List Kw)(ds:List (Option Nat))(own:Nat→Nat)(sv:Nat→Value)(w:World):Wt→Prop
 | .slot j=>match kwAt kn j with
  | .val p=>p (sv (Jk ds j))
  | .new rel _=>rel (own j) (sv (Jk ds j))∧B≤own j∧own j<w.heap.size
 | .cont j k=>match kwAt kn j with
  | .val _=>True
  | .new _ c=>ContOK (c.stage k) w (own j)
 | .base x k=>match G[x]? with
  | some g=>ContOK (g.2.stage k) w g.1
  | none=>True
def H4(B:Nat)(G:List (Nat×Cont))(kn:List Kw)(ds:List (Option Nat))(own:Nat→Nat)(sv:Nat→Value)(w:World):List Wt→Prop
 | []=>True
 | x::l=>Ol B G kn ds own sv w x∧H4 B G kn ds own sv w l
theorem Jl{B:Nat}{G:List (Nat×Cont)}{kn:List Kw}{ds:List (Option Nat)}{own:Nat→Nat}{sv:Nat→Value}{w:World}:∀(l:List Wt),(∀x∈l,Ol B G kn ds own sv w x)→H4 B G kn ds own sv w l
 | [],_=>trivial
 | x::l,h=>⟨h x (by simp),Jl l (fun y hy=>h y (by simp[hy]))⟩
def Gv(G:List (Nat×Cont))(kn:List Kw)(tg:List Tg)(own:Nat→Nat)(w:World)(i:Nat)(v:Value)(w':World):Prop:=
 match tg.getD i .none with
 | .none=>Touch (fun _=>False) w w'∧(match kwAt kn i with
  | .val p=>p v
  | .new rel c=>∃b,w.heap.size≤b∧rel b v∧ContOK c.first w' b)
 | .own j k=>Touch (fun b=>b=own j) w w'∧(match kwAt kn j with
  | .val _=>False
  | .new _ c=>ContOK (c.stage k) w' (own j))∧(match kwAt kn i with | .val p=>p v | .new _ _=>False)
 | .base x k=>(match G[x]? with
  | some g=>Touch (fun b=>b=g.1) w w'∧ContOK (g.2.stage k) w' g.1
  | none=>False)∧(match kwAt kn i with | .val p=>p v | .new _ _=>False)
def UP(P:Program)(S:World→Prop)(B:Nat)(G:List (Nat×Cont))(kn:List Kw)(tg:List Tg)(ds:List (Option Nat))(base:List (Nat×Value))(wt:List Wt)(i:Nat)(o:Oper):Prop:=
 ∀(Q:Exit→Act→World→Prop) (a:Act) (w:World) (own:Nat→Nat),S w→B≤w.heap.size→Gr a base→H4 B G kn ds own (fun d=>a.eval (.tmp d)) w wt →
  ((match o.guard with | none=>True | some (g,b)=>a.eval (.tmp (Jk ds g))=.bool b) ∧
   ∀K:Act→World→Prop,(∀v w',Gv G kn tg own w i v w'→K (a.put o.dst v) w')→o.wp P a w K Q) ∨
  ((match o.guard with | none=>False | some (g,b)=>a.eval (.tmp (Jk ds g))=.bool (!b)∨a.eval (.tmp (Jk ds g))=undef)∧Gv G kn tg own w i undef w)
def AllSteps3(P:Program)(S:World→Prop)(B:Nat)(G:List (Nat×Cont))(kn:List Kw)(tg:List Tg)(ds:List (Option Nat))(base:List (Nat×Value)):List (List Wt)→Nat→List Oper→Prop
 | _,_,[]=>True
 | p,k,o::l=>UP P S B G kn tg ds base (p.headD []) k o∧AllSteps3 P S B G kn tg ds base p.tail (k+1) l
theorem AllSteps3.at{S:World→Prop}{B:Nat}{G:List (Nat×Cont)}{kn:List Kw}{tg:List Tg}{ds:List (Option Nat)}{base:List (Nat×Value)}:∀(l:List Oper) (p:List (List Wt)) (k:Nat),AllSteps3 P S B G kn tg ds base p k l →∀(i:Nat) (o:Oper),l[i]?=some o→UP P S B G kn tg ds base (p.getD i []) (k+i) o
 | [],_,_,_,_,_,h=>by simp at h
 | x::l,p,k,h,i,o,ho=>by
  cases i with
  | zero =>
   simp at ho;subst ho;have:=h.1;cases p<;>simpa using this
  | succ i =>
   simp at ho;have:=AllSteps3.at l p.tail (k+1) h.2 i o ho;rw[show k+1+i=k+(i+1) by omega] at this;cases p<;>simpa using this
def DE(ops:Array Oper)(s i:Nat):Bool:=match ops[s]? with | some o=>Db o i | none=>false
def Nl(ops:Array Oper)(i:Nat)(o:Oper)(ss:List Nat)(k:Nat):Bool:=(ss.take k).all (fun s=>Db o s) && (ss.drop k).all (fun s=>s==i || DE ops s i)
def wtB(ops:Array Oper)(Gs:List (List Nat))(kn:List Kw)(ds:List (Option Nat))(i:Nat)(o:Oper):Wt→Bool
 | .slot j=>Db o j && decide (j<ops.size) && (ds.getD j none).isSome
 | .cont j k=>Db o j && decide (j<ops.size) && (ds.getD j none).isSome && Nl ops i o (kwAt kn j).sts k
 | .base x k=>Nl ops i o (Gs.getD x []) k
def Yl(ops:Array Oper)(Gs:List (List Nat))(kn:List Kw)(ds:List (Option Nat)):Wt→Bool
 | .slot j=>decide (j<ops.size) && (ds.getD j none).isSome
 | .cont j k=>decide (j<ops.size) && (ds.getD j none).isSome && (decide ((kwAt kn j).sts.length≤k) && (kwAt kn j).sts.all (fun s=>decide (s<ops.size)))
 | .base x k=>decide ((Gs.getD x []).length≤k) && (Gs.getD x []).all (fun s=>decide (s<ops.size))
def H5(ops:Array Oper)(i:Nat)(o:Oper)(ss:List Nat)(k:Nat):Bool:=
 decide (1≤k) && decide (ss[k-1]?=some i) && (ss.take (k-1)).all (fun s=>Db o s) && (ss.drop k).all (fun s=>DE ops s i)
def opB(ops:Array Oper)(Gs:List (List Nat))(kn:List Kw)(tg:List Tg)(ds:List (Option Nat))(wt:List (List Wt))(i:Nat)(o:Oper):Bool:=
 o.after.all (fun e=>!Region.binds .any e || decide (e.on<i)) &&
 (match o.guard with | some (g,_)=>decide (g<ops.size) && (ds.getD g none).isSome | none=>true) &&
 (wt.getD i []).all (wtB ops Gs kn ds i o) &&
 (!(kwAt kn i).isNew || ((ds.getD i none).isSome && (kwAt kn i).sts.all (fun s=>DE ops s i))) &&
 (AcA ops.size).all (fun j=>!(kwAt kn j).sts.contains i || (match tg.getD i .none with | .own j' _=>j==j' | _=>false)) &&
 (AcA Gs.length).all (fun x=>!(Gs.getD x []).contains i || (match tg.getD i .none with | .base x' _=>x==x' | _=>false)) &&
 (match tg.getD i .none with
  | .none=>true
  | .own j k=>!(kwAt kn i).isNew && (kwAt kn j).isNew && Db o j && decide (j<ops.size) && (ds.getD j none).isSome && H5 ops i o (kwAt kn j).sts k
  | .base x k=>!(kwAt kn i).isNew && decide (x<Gs.length) && H5 ops i o (Gs.getD x []) k)
def Cont.still(c:Cont):Bool:=c.stores.isEmpty
def ApartFrom(g:Nat×Cont):List (Nat×Cont)→Prop
 | []=>True
 | h::l=>(match g.2.still && h.2.still with | true=>True | false=>g.1≠h.1)∧ApartFrom g l
def Apart:List (Nat×Cont)→Prop
 | []=>True
 | g::l=>ApartFrom g l∧Apart l
theorem ApartFrom.at{g:Nat×Cont}:∀{l:List (Nat×Cont)},ApartFrom g l→∀h∈l,(g.2.still && h.2.still)=false→g.1≠h.1
 | [],_,_,hm,_=>by cases hm
 | x::l,ha,h,hm,hs=>by
  rcases List.mem_cons.1 hm with rfl | hm
  ·have:=ha.1
   rw[hs] at this;exact this
  ·exact ApartFrom.at ha.2 h hm hs
theorem Apart.at:∀{l:List (Nat×Cont)},Apart l→∀(x y:Nat) (g h:Nat×Cont),l[x]?=some g→l[y]?=some h→g.2.still=false→g.1=h.1→x=y
 | [],_,_,_,_,_,hx,_,_,_=>by simp at hx
 | k::l,ha,x,y,g,h,hx,hy,hs,he=>by
  cases x with
  | zero =>
   cases y with
   | zero=>rfl
   | succ y =>
    simp at hx hy;subst hx;exact absurd he (ha.1.at h (List.mem_of_getElem? hy) (by rw[hs];rfl))
  | succ x =>
   cases y with
   | zero =>
    simp at hx hy;subst hy;exact absurd he.symm (ha.1.at g (List.mem_of_getElem? hx) (by rw[hs];exact Bool.and_false _))
   | succ y =>
    simp at hx hy;rw[Apart.at ha.2 x y g h hx hy hs he]
def sts(G:List (Nat×Cont)):List (List Nat):=G.map fun x=>x.2.stores.map (·.1)
def Aak(ops:Array Oper)(n:Nat)(Gs:List (List Nat))(kn:List Kw)(tg:List Tg)(ds:List (Option Nat))(base:List Nat)(wt:List (List Wt))(fw:List Wt)(dl:List Nat):Bool:=
 decide (ds.filterMap (fun x=>x)=dl) && (ops.toList.map (·.dst)==ds) && decide (CK ops).Nodup && (CK ops).all (fun d=>decide (d<n)) && base.all (fun t=>!(CK ops).contains t) && fw.all (Yl ops Gs kn ds) &&
 (AcA ops.size).all (fun i=>match ops[i]? with | some o=>opB ops Gs kn tg ds wt i o | none=>true)
structure Mid3 (ops:Array Oper) (a0:Act) (S:World→Prop) (B:Nat) (G:List (Nat×Cont)) (kn:List Kw) (own:Nat→Nat) (listed:Array Bool) (a:Act) (w:World):Prop where
 lsize:listed.size=ops.size
 closed:∀(j:Nat) (oj:Oper),ops[j]?=some oj→listed.getD j false=true→∀e∈oj.after,Region.binds .any e=true→listed.getD e.on false=true
 size:a.tmps.size=a0.tmps.size
 defers:a.defers=a0.defers
 world:S w
 big:B≤w.heap.size
 frame:∀t:Nat,(∀(i:Nat) (o:Oper),ops[i]?=some o→listed.getD i false=true→o.dst≠some t)→a.tmps[t]?=a0.tmps[t]?
 known:∀(i:Nat) (o:Oper) (d:Nat),ops[i]?=some o→o.dst=some d→listed.getD i false=true→match kwAt kn i with
  | .val p=>p (a.tmps.getD d undef)
  | .new rel c=>rel (own i) (a.tmps.getD d undef)∧B≤own i∧ContOK (c.at (fun s=>listed.getD s false)) w (own i)
 blocks:∀x∈G,ContOK (x.2.at (fun s=>listed.getD s false)) w x.1
 inj:∀i j,listed.getD i false=true→listed.getD j false=true→(kwAt kn i).isNew=true→(kwAt kn j).isNew=true→own i=own j→i=j
theorem ContOK.lt{c:Obj→Prop}{w:World}{b:Nat}(h:ContOK c w b):b<w.heap.size:=by
 obtain⟨ob,h,_⟩:=h;exact(Array.getElem?_eq_some_iff.1 h).1
theorem ContOK.keep{c c':Obj→Prop}{w w':World}{b:Nat}{T:Nat→Prop}(h:ContOK c w b)(ht:Touch T w w')(hb:¬T b)(hc:c'=c):ContOK c' w' b:=by
 have hl:=h.lt;obtain⟨ob,h,hp⟩:=h;exact⟨ob,(ht.block b hl hb).trans h,hc▸hp⟩
def GAll(B:Nat)(w:World):List (Nat×Cont)→Prop
 | []=>True
 | x::l=>(x.1<B∧ContOK x.2.first w x.1)∧GAll B w l
theorem GAll.at{B:Nat}{w:World}:∀{l:List (Nat×Cont)},GAll B w l→∀x∈l,x.1<B∧ContOK x.2.first w x.1
 | [],_,_,h=>by cases h
 | y::l,h,x,hx=>by
  rcases List.mem_cons.1 hx with rfl | hx
  ·exact h.1
  ·exact GAll.at h.2 x hx
theorem Om{i:Nat}{o:Oper}{ss:List Nat}{k:Nat}(h:H5 ops i o ss k=true):(∀s∈ss.take k,s=i∨Db o s=true)∧(∀s∈ss.drop k,DE ops s i=true):=by
 simp only[H5,AcB,decide_eq_true_eq] at h;obtain⟨⟨⟨h1,h2⟩,h3⟩,h4⟩:=h;refine⟨fun s hs=>?_,fun s hs=>List.all_eq_true.1 h4 s hs⟩
 have e:ss.take k=ss.take (k-1)++[i]:=by
  have hl:k-1<ss.length:=(List.getElem?_eq_some_iff.1 h2).1;have h5:=(List.getElem?_eq_some_iff.1 h2).2;have:=List.take_succ_eq_append_getElem hl;rw[show k-1+1=k by omega,h5] at this;exact this
 rw[e] at hs
 rcases List.mem_append.1 hs with hs | hs
 ·exact .inr (List.all_eq_true.1 h3 s hs)
 ·exact .inl (by simpa using hs)
theorem Sw{listed:Array Bool}{i:Nat}(h:i<listed.size):(listed.setIfInBounds i true).getD i false=true:=by simp[h]
theorem Ef{o:Oper}{j:Nat}(h:Db o j=true):∃e∈o.after,Region.binds .any e=true∧e.on=j:=by
 obtain⟨e,he,hb⟩:=Array.any_eq_true'.1 h;simp only[AcB,beq_iff_eq] at hb;exact⟨e,he,hb.1,hb.2⟩
theorem Mid3.next{a0:Act}{S:World→Prop}{B:Nat}{G:List (Nat×Cont)}{kn:List Kw}{tg:List Tg}{ds:List (Option Nat)}{wt:List (List Wt)}{own:Nat→Nat}{listed:Array Bool}{a:Act}{w:World}{i:Nat}{o:Oper}{v:Value}{w':World}(hnd:(CK ops).Nodup)(hsz:∀d∈CK ops,d<a0.tmps.size)(hop:opB ops (sts G) kn tg ds wt i o=true)(hGB:∀x∈G,x.1<B)(hGd:Apart G)(hnewd:∀(j:Nat) (oj:Oper),ops[j]?=some oj→(kwAt kn j).isNew=true→oj.dst.isSome=true)(hSR:∀w w',S w→Touch (fun k=>B≤k∨k∈G.map (·.1)) w w'→S w')(mid:Mid3 ops a0 S B G kn own listed a w)(ho:ops[i]?=some o)(hun:listed.getD i true=false)(hall:∀e∈o.after,Region.binds .any e=true→listed.getD e.on false=true)(post:Gv G kn tg own w i v w'):∃own',Mid3 ops a0 S B G kn own' (listed.setIfInBounds i true) (a.put o.dst v) w':=by
 have hils:i<listed.size:=by
  rcases AcS i listed.size with h | h
  ·exact h
  ·simp[AcI h] at hun
 have hilt:i<ops.size:=by rw[←mid.lsize];exact hils
 have hunf:listed.getD i false=false:=by simp[hils] at hun ⊢;exact hun
 have hself:=Sw hils;simp only[opB,AcB] at hop;obtain⟨⟨⟨⟨⟨⟨hord,hgd⟩,hwt⟩,hnew⟩,hst1⟩,hst2⟩,htg⟩:=hop
 have hpl:∀j,Db o j=true→listed.getD j false=true:=fun j hj=>by
  obtain⟨e,he,hb,rfl⟩:=Ef hj;exact hall e he hb
 have hwl:∀s,DE ops s i=true→listed.getD s false=false:=fun s hs=>by
  unfold DE at hs
  cases hq:ops[s]? with
  | none=>rw[hq] at hs;cases hs
  | some os =>
   rw[hq] at hs;obtain⟨e,he,hb,hon⟩:=Ef hs
   cases hl:listed.getD s false with
   | false=>rfl
   | true =>
    have:=mid.closed s os hq hl e he hb;rw[hon,hunf] at this;cases this
 have hother:∀s,s≠i→(listed.setIfInBounds i true).getD s false=listed.getD s false:=fun s hs=>getD_set_ne false (Ne.symm hs)
 have hstage:∀(c:Cont) (k:Nat),H5 ops i o (c.stores.map (·.1)) k=true→c.at (fun s=>(listed.setIfInBounds i true).getD s false)=c.stage k:=fun c k hs=>by
  obtain⟨h1,h2⟩:=Om hs;refine Cont.at_stage k (fun s hs'=>?_) (fun s hs'=>?_)
  ·rcases h1 s hs' with rfl | h
   ·exact hself
   ·by_cases hsi:s=i
    ·subst hsi;exact hself
    ·rw[hother s hsi];exact hpl s h
  ·have:=hwl s (h2 s hs')
   have hsi:s≠i:=fun e=>by
    subst e;have h3:=h2 s hs';simp only[DE,ho] at h3;obtain⟨e,he,hb,hon⟩:=Ef h3;have h4:=Array.all_eq_true'.1 hord e he;simp only[hb,Bool.not_true,Bool.false_or,decide_eq_true_eq] at h4;omega
   rw[hother s hsi];exact this
 have hfree:∀(c:Cont),i ∉ c.stores.map (·.1)→c.at (fun s=>(listed.setIfInBounds i true).getD s false)=c.at (fun s=>listed.getD s false):=fun c hc =>
  Cont.at_congr (fun s hs=>hother s (fun e=>hc (e▸hs)))
 have hclosed:∀(j:Nat) (oj:Oper),ops[j]?=some oj→(listed.setIfInBounds i true).getD j false=true→∀e∈oj.after,Region.binds .any e=true→(listed.setIfInBounds i true).getD e.on false=true:=by
  intro j oj hj hl e he hb
  have h1:listed.getD e.on false=true:=by
   rcases Dc hl with rfl | hl
   ·obtain rfl:oj=o:=Option.some.inj (hj.symm.trans ho)
    exact hall e he hb
   ·exact mid.closed j oj hj hl e he hb
  by_cases hie:e.on=i
  ·rw[hie];exact hself
  ·rw[hother _ hie];exact h1
 have hframe:∀t:Nat,(∀(j:Nat) (oj:Oper),ops[j]?=some oj→(listed.setIfInBounds i true).getD j false=true→oj.dst≠some t)→(a.put o.dst v).tmps[t]?=a0.tmps[t]?:=by
  intro t ht
  have h1:(a.put o.dst v).tmps[t]?=a.tmps[t]?:=by
   cases hd:o.dst with
   | none=>rfl
   | some d =>
    have hne:d≠t:=fun h=>ht i o ho hself (by rw[hd,h])
    simp[Act.put,hne]
  rw[h1]
  exact mid.frame t (fun j oj hj hl=>ht j oj hj (by
   by_cases hij:j=i
   ·subst hij;exact hself
   ·rw[hother _ hij];exact hl))
 have hsize:(a.put o.dst v).tmps.size=a0.tmps.size:=by
  cases hd:o.dst with
  | none=>exact mid.size
  | some d=>simpa [Act.put] using mid.size
 have hdef:(a.put o.dst v).defers=a0.defers:=by
  cases hd:o.dst with
  | none=>exact mid.defers
  | some d=>exact mid.defers
 -- a slot of another operation
 have hslot:∀(j:Nat) (oj:Oper) (d:Nat),ops[j]?=some oj→oj.dst=some d→j≠i→(a.put o.dst v).tmps.getD d undef=a.tmps.getD d undef:=by
  intro j oj d hj hd hji
  cases hdi:o.dst with
  | none=>rfl
  | some di =>
   have hne:di≠d:=fun h=>by
    subst h;exact hji (Jj hnd hj ho hd hdi)
   simp[Act.put,hne]
 have hmine:∀d,o.dst=some d→(a.put o.dst v).tmps.getD d undef=v:=by
  intro d hd;have hm:d∈CK ops:=List.mem_filterMap.2 ⟨o,by simpa using Adm ho,hd⟩;have:d<a.tmps.size:=by rw[mid.size];exact hsz d hm
  rw[hd];simp[Act.put,this]
 have hjlt:∀j,listed.getD j false=true→j<ops.size:=fun j hj=>by
  rw[←mid.lsize]
  rcases AcS j listed.size with h | h
  ·exact h
  ·simp[AcI h] at hj
 have hst1':∀j,j<ops.size→(∀k,tg.getD i .none≠.own j k)→i ∉ (kwAt kn j).sts:=fun j hj hn hmem=>by
  have h1:=List.all_eq_true.1 hst1 j (List.mem_range.2 hj);simp only[List.contains_iff_mem.2 hmem,Bool.not_true,Bool.false_or] at h1
  split at h1
  ·rename_i j' k' heq
   simp only[beq_iff_eq] at h1;subst h1;exact hn _ heq
  ·cases h1
 have hst2':∀(x:Nat) (hx:x<G.length),(∀k,tg.getD i .none≠.base x k)→i ∉ G[x].2.stores.map (·.1):=fun x hx hn hmem=>by
  have h1:=List.all_eq_true.1 hst2 x (List.mem_range.2 (by simpa [sts] using hx));have h2:(sts G).getD x []=G[x].2.stores.map (·.1):=by simp[sts,hx]
  rw[h2] at h1;simp only[List.contains_iff_mem.2 hmem,Bool.not_true,Bool.false_or] at h1
  split at h1
  ·rename_i j' k' heq
   simp only[beq_iff_eq] at h1;subst h1;exact hn _ heq
  ·cases h1
 unfold Gv at post
 cases htgi:tg.getD i .none with
 | none =>
  rw[htgi] at post htg;simp only at post;obtain⟨ht,hv⟩:=post;have hS':=hSR w w' mid.world (ht.mono (fun _ _ h=>h.elim))
  have hblocks:∀x∈G,ContOK (x.2.at (fun s=>(listed.setIfInBounds i true).getD s false)) w' x.1:=fun x hx=>by
   obtain⟨n,hn,rfl⟩:=List.getElem_of_mem hx;exact(mid.blocks _ hx).keep ht (fun h=>h) (hfree _ (hst2' n hn (fun _ h=>by rw[htgi] at h;cases h)))
  cases hk:kwAt kn i with
  | val p =>
   rw[hk] at hv;simp only at hv;refine⟨own,⟨by simp[mid.lsize],hclosed,hsize,hdef,hS',AcE mid.big ht.size,hframe,?_,hblocks,?_⟩⟩
   ·intro j oj d hj hd hl
    by_cases hji:j=i
    ·subst hji
     obtain rfl:oj=o:=Option.some.inj (hj.symm.trans ho);rw[hk,hmine d hd];exact hv
    ·rw[hslot j oj d hj hd hji]
     rw[hother j hji] at hl;have h1:=mid.known j oj d hj hd hl
     cases hkj:kwAt kn j with
     | val p=>rw[hkj] at h1;exact h1
     | new rel c =>
      rw[hkj] at h1;have h2:=hst1' j (hjlt j hl) (fun _ h=>by rw[htgi] at h;cases h);rw[hkj] at h2;exact⟨h1.1,h1.2.1,h1.2.2.keep ht (fun h=>h) (hfree c h2)⟩
   ·intro j j' hl hl' hn hn' he
    have hni:∀j,(kwAt kn j).isNew=true→j≠i:=fun j h e=>by subst e;rw[hk] at h;cases h
    rw[hother j (hni j hn)] at hl;rw[hother j' (hni j' hn')] at hl';exact mid.inj j j' hl hl' hn hn' he
  | new rel c =>
   rw[hk] at hv;simp only at hv;obtain⟨b,hb,hrel,hc⟩:=hv;refine⟨fun j=>if j=i then b else own j,⟨by simp[mid.lsize],hclosed,hsize,hdef,hS',AcE mid.big ht.size,hframe,?_,hblocks,?_⟩⟩
   ·intro j oj d hj hd hl
    by_cases hji:j=i
    ·subst hji
     obtain rfl:oj=o:=Option.some.inj (hj.symm.trans ho)
     have hno:j ∉ c.stores.map (·.1):=by
      have h2:=hst1' j hilt (fun _ h=>by rw[htgi] at h;cases h);rw[hk] at h2;exact h2
     have hstg:c.at (fun s=>(listed.setIfInBounds j true).getD s false)=c.first:=by
      rw[hfree c hno]
      have hz:∀s∈c.stores.map (·.1),listed.getD s false=false:=fun s hs=>by
       rw[hk] at hnew;simp only[Kw.isNew,Bool.not_true,Bool.false_or,AcB] at hnew;exact hwl s (List.all_eq_true.1 hnew.2 s hs)
      exact Cont.at_stage 0 (fun s hs=>by simp at hs) (fun s hs=>hz s (by simpa using hs))
     rw[hk,hmine d hd];simp only[if_true];exact⟨hrel,AcE mid.big hb,by rw[hstg];exact hc⟩
    ·rw[hslot j oj d hj hd hji]
     rw[hother j hji] at hl;have h1:=mid.known j oj d hj hd hl
     cases hkj:kwAt kn j with
     | val p=>rw[hkj] at h1;exact h1
     | new rel c =>
      rw[hkj] at h1;have h2:=hst1' j (hjlt j hl) (fun _ h=>by rw[htgi] at h;cases h);rw[hkj] at h2;simp only[hji,if_false];exact⟨h1.1,h1.2.1,h1.2.2.keep ht (fun h=>h) (hfree c h2)⟩
   ·have hlow:∀j,j≠i→(listed.setIfInBounds i true).getD j false=true→(kwAt kn j).isNew=true→own j<w.heap.size:=fun j hji hl hn=>by
     rw[hother j hji] at hl;have hlt:=hjlt j hl;have hoj:ops[j]?=some ops[j]:=AcN hlt;obtain⟨d,hd⟩:=Option.isSome_iff_exists.1 (hnewd j _ hoj hn);have h1:=mid.known j _ d hoj hd hl
     cases hkj:kwAt kn j with
     | val p=>rw[hkj] at hn;cases hn
     | new rel c=>rw[hkj] at h1;exact h1.2.2.lt
    intro j j' hl hl' hn hn' he
    by_cases h1:j=i
    ·by_cases h2:j'=i
     ·rw[h1,h2]
     ·have:=hlow j' h2 hl' hn'
      simp only[h1,if_true,h2,if_false] at he;omega
    ·by_cases h2:j'=i
     ·have:=hlow j h1 hl hn
      simp only[h1,if_false,h2,if_true] at he;omega
     ·simp only[h1,h2,if_false] at he
      rw[hother j h1] at hl;rw[hother j' h2] at hl';exact mid.inj j j' hl hl' hn hn' he
 | own j0 k =>
  rw[htgi] at post htg;simp only[AcB,decide_eq_true_eq] at post htg;obtain⟨ht,hc,hv⟩:=post;obtain⟨⟨⟨⟨⟨hni,hnj⟩,hpj⟩,hj0⟩,hdj⟩,hsb⟩:=htg;have hl0:=hpl j0 hpj
  have hk:∃p,kwAt kn i=.val p:=by
   cases hk:kwAt kn i with
   | val p=>exact⟨p,rfl⟩
   | new _ _=>rw[hk] at hni;cases hni
  obtain⟨p,hk⟩:=hk;rw[hk] at hv;simp only at hv;have hoj0:ops[j0]?=some ops[j0]:=AcN hj0;obtain⟨d0,hd0⟩:=Option.isSome_iff_exists.1 (hnewd j0 _ hoj0 hnj);have hkn0:=mid.known j0 _ d0 hoj0 hd0 hl0
  cases hkj0:kwAt kn j0 with
  | val _=>rw[hkj0] at hnj;cases hnj
  | new rel0 c0 =>
  rw[hkj0] at hc hkn0 hsb;simp only at hc hkn0;have hB0:=hkn0.2.1;have hS':=hSR w w' mid.world (ht.mono (fun b _ h=>.inl (by rw[h];exact hB0)));refine⟨own,⟨by simp[mid.lsize],hclosed,hsize,hdef,hS',AcE mid.big ht.size,hframe,?_,?_,?_⟩⟩
  ·intro j oj d hj hd hl
   by_cases hji:j=i
   ·subst hji
    obtain rfl:oj=o:=Option.some.inj (hj.symm.trans ho);rw[hk,hmine d hd];exact hv
   ·rw[hslot j oj d hj hd hji]
    rw[hother j hji] at hl;have h1:=mid.known j oj d hj hd hl
    cases hkj:kwAt kn j with
    | val p=>rw[hkj] at h1;exact h1
    | new rel c =>
     rw[hkj] at h1
     by_cases hjj:j=j0
     ·subst hjj
      rw[hkj0] at hkj;cases hkj;exact⟨h1.1,h1.2.1,by rw[hstage c0 k hsb];exact hc⟩
     ·have h2:=hst1' j (hjlt j hl) (fun _ h=>by rw[htgi] at h;cases h;exact hjj rfl)
      rw[hkj] at h2;exact⟨h1.1,h1.2.1,h1.2.2.keep ht (fun h=>hjj (mid.inj j j0 hl hl0 (by rw[hkj];rfl) hnj h)) (hfree c h2)⟩
  ·intro x hx
   obtain⟨n,hn,rfl⟩:=List.getElem_of_mem hx;exact(mid.blocks _ hx).keep ht (fun h=>by have:=hGB _ hx;omega) (hfree _ (hst2' n hn (fun _ h=>by rw[htgi] at h;cases h)))
  ·intro j j' hl hl' hn hn' he
   have hni:∀j,(kwAt kn j).isNew=true→j≠i:=fun j h e=>by subst e;rw[hk] at h;cases h
   rw[hother j (hni j hn)] at hl;rw[hother j' (hni j' hn')] at hl';exact mid.inj j j' hl hl' hn hn' he
 | base x0 k =>
  rw[htgi] at post htg;simp only[AcB,decide_eq_true_eq] at post htg;obtain⟨hc,hv⟩:=post;obtain⟨⟨hni,hx0⟩,hsb⟩:=htg;have hx0:x0<G.length:=by simpa [sts] using hx0
  rw[AcP hx0] at hc;simp only at hc;obtain⟨ht,hc⟩:=hc
  have hsb:H5 ops i o (G[x0].2.stores.map (·.1)) k=true:=by
   have h2:(sts G).getD x0 []=G[x0].2.stores.map (·.1):=by simp[sts,hx0]
   rw[h2] at hsb;exact hsb
  have hk:∃p,kwAt kn i=.val p:=by
   cases hk:kwAt kn i with
   | val p=>exact⟨p,rfl⟩
   | new _ _=>rw[hk] at hni;cases hni
  obtain⟨p,hk⟩:=hk;rw[hk] at hv;simp only at hv;have hxm:G[x0]∈G:=List.getElem_mem hx0;have hS':=hSR w w' mid.world (ht.mono (fun b _ h=>.inr (by rw[h];exact List.mem_map_of_mem hxm)));refine⟨own,⟨by simp[mid.lsize],hclosed,hsize,hdef,hS',AcE mid.big ht.size,hframe,?_,?_,?_⟩⟩
  ·intro j oj d hj hd hl
   by_cases hji:j=i
   ·subst hji
    obtain rfl:oj=o:=Option.some.inj (hj.symm.trans ho);rw[hk,hmine d hd];exact hv
   ·rw[hslot j oj d hj hd hji]
    rw[hother j hji] at hl;have h1:=mid.known j oj d hj hd hl
    cases hkj:kwAt kn j with
    | val p=>rw[hkj] at h1;exact h1
    | new rel c =>
     rw[hkj] at h1;have h2:=hst1' j (hjlt j hl) (fun _ h=>by rw[htgi] at h;cases h);rw[hkj] at h2;exact⟨h1.1,h1.2.1,h1.2.2.keep ht (fun h=>by have:=hGB _ hxm;have:=h1.2.1;omega) (hfree c h2)⟩
  ·intro x hx
   obtain⟨n,hn,rfl⟩:=List.getElem_of_mem hx
   by_cases hnx:n=x0
   ·subst hnx
    rw[hstage _ k hsb];exact hc
   ·refine(mid.blocks _ hx).keep ht (fun h=>hnx ?_) (hfree _ (hst2' n hn (fun _ h=>by rw[htgi] at h;cases h;exact hnx rfl)))
    have hst0:G[x0].2.still=false:=by
     cases hq:G[x0].2.stores with
     | nil =>
      simp only[H5,hq,AcD,AcB,decide_eq_true_eq] at hsb;simp at hsb
     | cons _ _=>simp[Cont.still,hq]
    exact(hGd.at x0 n _ _ (AcP hx0) (AcP hn) hst0 h.symm).symm
  ·intro j j' hl hl' hn hn' he
   have hni:∀j,(kwAt kn j).isNew=true→j≠i:=fun j h e=>by subst e;rw[hk] at h;cases h
   rw[hother j (hni j hn)] at hl;rw[hother j' (hni j' hn')] at hl';exact mid.inj j j' hl hl' hn hn' he
theorem CB {a0:Act} {w0:World} (S:World→Prop) (B:Nat) (G:List (Nat×Cont)) (kn:List Kw) (tg:List Tg) (ds:List (Option Nat)) (base:List (Nat×Value)) (wt:List (List Wt)) (fw:List Wt) (dl:List Nat)
  (hB:Aak ops a0.tmps.size (sts G) kn tg ds (base.map (·.1)) wt fw dl=true)
  (hb0:Gr a0 base) (hS0:S w0.drew) (hBig:B≤w0.heap.size) (hG0:GAll B w0.drew G) (hGd:Apart G)
  (hSR:∀w w',S w→Touch (fun k=>B≤k∨k∈G.map (·.1)) w w'→S w')
  (steps:AllSteps3 P S B G kn tg ds base wt 0 ops.toList)
  (fin:∀(vs own:Nat→_) (w:World),S w→B≤w.heap.size→H4 B G kn ds own vs w fw→(∀i j,i<ops.size→j<ops.size→(kwAt kn i).isNew=true→(kwAt kn j).isNew=true→own i=own j→i=j)→Q .normal (Ap a0 vs dl) w) :
  wpAny P .any ops Q ops.size (Array.replicate ops.size false) a0 { w0 with drawn:=w0.drawn+1 }:=by
 simp only[Aak,AcB,beq_iff_eq,decide_eq_true_eq] at hB;obtain⟨⟨⟨⟨⟨⟨hdl,hds⟩,hnd⟩,hsz⟩,hbase⟩,hfw⟩,hops⟩:=hB;have hsz':∀d∈CK ops,d<a0.tmps.size:=fun d hd=>by simpa using List.all_eq_true.1 hsz d hd
 have hop:∀(i:Nat) (o:Oper),ops[i]?=some o→opB ops (sts G) kn tg ds wt i o=true:=fun i o ho=>by
  have h1:=List.all_eq_true.1 hops i (List.mem_range.2 (Array.getElem?_eq_some_iff.1 ho).1)
  simpa only [ho] using h1
 have hdst:∀(j:Nat) (oj:Oper),ops[j]?=some oj→ds.getD j none=oj.dst:=fun j oj hj=>by
  have h1:(ops.toList.map (·.dst))[j]?=some oj.dst:=by rw[Adi];simp[hj]
  rw[hds] at h1;rw[Ade,h1];rfl
 have hdsts:CK ops=dl:=by
  unfold CK;rw[←hdl,←hds,List.filterMap_map];rfl
 have hnewd:∀(j:Nat) (oj:Oper),ops[j]?=some oj→(kwAt kn j).isNew=true→oj.dst.isSome=true:=fun j oj hj hn=>by
  have h1:=hop j oj hj;simp only[opB,AcB] at h1;have h2:=h1.1.1.1.2;rw[hn,hdst j oj hj] at h2;simp only[Bool.not_true,Bool.false_or,AcB] at h2;exact h2.1
 have hGB:∀x∈G,x.1<B:=fun x hx=>(hG0.at x hx).1
 refine(Fw (fun listed a w=>∃own,Mid3 ops a0 S B G kn own listed a w) ?_ ?_ ops.size _ a0 _ ?_ ?_)
 ·intro listed a w i inv hi
  obtain⟨own,mid⟩:=inv;obtain⟨hun,o,ho,hall⟩:=mem_ready.1 hi
  have hils:i<listed.size:=by
   rcases AcS i listed.size with h | h
   ·exact h
   ·simp[AcI h] at hun
  have hunf:listed.getD i false=false:=by simp[hils] at hun ⊢;exact hun
  have hopi:=hop i o ho;have hopi2:=hopi;simp only[opB,AcB] at hopi2;obtain⟨⟨⟨⟨⟨⟨hord,hgd⟩,hwt⟩,hnew⟩,hst1⟩,hst2⟩,htg⟩:=hopi2
  have hpl:∀j,Db o j=true→listed.getD j false=true:=fun j hj=>by
   obtain⟨e,he,hb,rfl⟩:=Ef hj;exact hall e he hb
  have hwl:∀s,DE ops s i=true→listed.getD s false=false:=fun s hs=>by
   unfold DE at hs
   cases hq:ops[s]? with
   | none=>rw[hq] at hs;cases hs
   | some os =>
    rw[hq] at hs;obtain⟨e,he,hb,hon⟩:=Ef hs
    cases hl:listed.getD s false with
    | false=>rfl
    | true =>
     have:=mid.closed s os hq hl e he hb;rw[hon,hunf] at this;cases this
  have hstage:∀(c:Cont) (k:Nat),Nl ops i o (c.stores.map (·.1)) k=true→c.at (fun s=>listed.getD s false)=c.stage k:=fun c k hs=>by
   simp only[Nl,AcB] at hs;refine Cont.at_stage k (fun s h=>hpl s (List.all_eq_true.1 hs.1 s h)) (fun s h=>?_);have h1:=List.all_eq_true.1 hs.2 s h;simp only[Bool.or_eq_true,beq_iff_eq] at h1
   rcases h1 with rfl | h1
   ·exact hunf
   ·exact hwl s h1
  have hslot:∀(j:Nat) (oj:Oper) (d:Nat),ops[j]?=some oj→oj.dst=some d→Jk ds j=d:=fun j oj d hj hd=>by
   unfold Jk;rw[hdst j oj hj,hd];rfl
  have hkn:H4 B G kn ds own (fun d=>a.eval (.tmp d)) w (wt.getD i []):=Jl _ (fun x hx=>by
   have h1:=List.all_eq_true.1 hwt x hx
   cases x with
   | slot j =>
    simp only[wtB,AcB,decide_eq_true_eq] at h1;have hoj:ops[j]?=some ops[j]:=AcN h1.1.2;rw[hdst j _ hoj] at h1;obtain⟨d,hd⟩:=Option.isSome_iff_exists.1 h1.2;have h2:=mid.known j _ d hoj hd (hpl j h1.1.1);simp only[Ol,hslot j _ d hoj hd]
    cases hk:kwAt kn j with
    | val p=>rw[hk] at h2;simpa [Act.eval] using h2
    | new rel c=>rw[hk] at h2;exact⟨by simpa [Act.eval] using h2.1,h2.2.1,h2.2.2.lt⟩
   | cont j k =>
    simp only[wtB,AcB,decide_eq_true_eq] at h1;have hoj:ops[j]?=some ops[j]:=AcN h1.1.1.2;rw[hdst j _ hoj] at h1;obtain⟨d,hd⟩:=Option.isSome_iff_exists.1 h1.1.2;have h2:=mid.known j _ d hoj hd (hpl j h1.1.1.1);simp only[Ol]
    cases hk:kwAt kn j with
    | val p=>trivial
    | new rel c =>
     rw[hk] at h2;have h3:=h1.2;rw[hk] at h3;show ContOK (c.stage k) w (own j);rw[←hstage c k h3];exact h2.2.2
   | base x k =>
    simp only[wtB] at h1;simp only[Ol]
    cases hg:G[x]? with
    | none=>trivial
    | some g =>
     have hxl:x<G.length:=(List.getElem?_eq_some_iff.1 hg).1;have h2:(sts G).getD x []=g.2.stores.map (·.1):=by simp[sts,hg]
     rw[h2] at h1;show ContOK (g.2.stage k) w g.1;rw[←hstage g.2 k h1];exact mid.blocks g (List.mem_of_getElem? hg))
  have hhold:Gr a base:=Iv base (fun t htm=>Gt (mid.frame t (fun j oj hj _ hd=>by
   have h1:=List.all_eq_true.1 hbase t htm;have h2:t∈CK ops:=List.mem_filterMap.2 ⟨oj,by simpa using Adm hj,hd⟩;simp[h2] at h1))) hb0
  have st:=AllSteps3.at ops.toList wt 0 steps i o (by simpa using ho);rw[Ac9] at st
  have hnext:∀v w',Gv G kn tg own w i v w'→∃own',Mid3 ops a0 S B G kn own' (listed.setIfInBounds i true) (a.put o.dst v) w':=fun v w' hp =>
   Mid3.next hnd hsz' hopi hGB hGd hnewd hSR mid ho hun hall hp
  have hyield:∀(g:Nat) (b:Bool),(decide (g<ops.size) && (ds.getD g none).isSome)=true→∃d,Jk ds g=d∧yielded ops a.tmps g=(match a.tmps[d]? with | some (.bool b)=>some b | _=>none):=fun g b hg=>by
   simp only[AcB,decide_eq_true_eq] at hg;have hog:ops[g]?=some ops[g]:=AcN hg.1;rw[hdst g _ hog] at hg;obtain⟨d,hd⟩:=Option.isSome_iff_exists.1 hg.2;refine⟨d,hslot g _ d hog hd,?_⟩;unfold yielded;rw[hog];simp only[Option.bind_some,hd];cases a.tmps[d]?<;>rfl
  unfold wpOp;simp only[ho]
  rcases st Q a w own mid.world mid.big hhold hkn with ⟨hg,hk⟩ | ⟨hg,hp⟩
  ·have hw:Region.wanted o (yielded ops a.tmps)=true:=by
    unfold Region.wanted
    cases hgo:o.guard with
    | none=>rfl
    | some x =>
     obtain⟨g,b⟩:=x;rw[hgo] at hg hgd;obtain⟨d,hd,hy⟩:=hyield g b hgd;simp only[hd,Act.eval] at hg
     have h4:a.tmps[d]?=some (.bool b):=by
      rw[Ado] at hg
      cases hq:a.tmps[d]? with
      | none=>rw[hq] at hg;simp[undef] at hg
      | some v=>rw[hq] at hg;simpa using hg
     simp[hy,h4]
   rw[if_pos hw];exact .inl (hk _ (fun v w' h=>hnext v w' h))
  ·have hw:Region.wanted o (yielded ops a.tmps)=false:=by
    unfold Region.wanted
    cases hgo:o.guard with
    | none=>rw[hgo] at hg;exact hg.elim
    | some x =>
     obtain⟨g,b⟩:=x;rw[hgo] at hg hgd;obtain⟨d,hd,hy⟩:=hyield g b hgd;simp only[hd,Act.eval,Ado] at hg;show (yielded ops a.tmps g==some b)=false;rw[hy]
     cases hq:a.tmps[d]? with
     | none=>simp
     | some v =>
      rw[hq] at hg;simp only[Option.getD_some] at hg
      rcases hg with rfl | rfl
      ·cases b<;>simp
      ·simp[undef]
   rw[if_neg (by rw[hw];decide)];exact hnext _ _ hp
 ·intro listed a w inv hr
  obtain⟨own,mid⟩:=inv
  have hall:∀n i,i<n→i<ops.size→listed.getD i false=true:=by
   intro n
   induction n with
   | zero=>intro i h;cases h
   | succ n ih =>
    intro i hin hil
    by_cases hlt:i<n
    ·exact ih i hlt hil
    ·have hin':i=n:=by omega
     subst hin'
     cases hg:listed.getD i false with
     | true=>rfl
     | false =>
      have ho:ops[i]?=some ops[i]:=AcN hil;have h1:=hop i _ ho;simp only[opB,AcB] at h1;have h1:=h1.1.1.1.1.1.1
      have hin2:i∈Region.ready .any ops listed:=mem_ready.2 ⟨by
       have:i<listed.size:=by rw[mid.lsize];exact hil
       simp[this] at hg ⊢;exact hg,_,ho,fun e he hb=>by
       have h2:=Array.all_eq_true'.1 h1 e he;simp only[hb,Bool.not_true,Bool.false_or,decide_eq_true_eq] at h2;exact ih e.on h2 (by omega)⟩
      rw[hr] at hin2;cases hin2
  have hal:∀i,i<ops.size→listed.getD i false=true:=fun i hi=>hall (i+1) i (by omega) hi
  have hlt:∀i,listed.getD i false=true→i<ops.size:=fun i hi=>by
   rw[←mid.lsize]
   rcases AcS i listed.size with h | h
   ·exact h
   ·simp[AcI h] at hi
  have hst:∀(c:Cont) (k:Nat),(∀s∈c.stores.map (·.1),s<ops.size)→(c.stores.map (·.1)).length≤k→c.at (fun s=>listed.getD s false)=c.stage k:=fun c k hs hk =>
   Cont.at_stage k (fun s h=>hal s (hs s (List.mem_of_mem_take h))) (fun s h=>by rw[List.drop_eq_nil_of_le hk] at h;cases h)
  have hq:=fin (fun d=>a.tmps.getD d undef) own w mid.world mid.big (Jl _ (fun x hx=>by
   have h1:=List.all_eq_true.1 hfw x hx
   cases x with
   | slot j =>
    simp only[Yl,AcB,decide_eq_true_eq] at h1;have hoj:ops[j]?=some ops[j]:=AcN h1.1;rw[hdst j _ hoj] at h1;obtain⟨d,hd⟩:=Option.isSome_iff_exists.1 h1.2;have h2:=mid.known j _ d hoj hd (hal j h1.1);have hsl:Jk ds j=d:=by unfold Jk;rw[hdst j _ hoj,hd];rfl
    simp only[Ol,hsl]
    cases hk:kwAt kn j with
    | val p=>rw[hk] at h2;exact h2
    | new rel c=>rw[hk] at h2;exact⟨h2.1,h2.2.1,h2.2.2.lt⟩
   | cont j k =>
    simp only[Yl,AcB,decide_eq_true_eq] at h1;have hoj:ops[j]?=some ops[j]:=AcN h1.1.1;rw[hdst j _ hoj] at h1;obtain⟨d,hd⟩:=Option.isSome_iff_exists.1 h1.1.2;have h2:=mid.known j _ d hoj hd (hal j h1.1.1);simp only[Ol]
    cases hk:kwAt kn j with
    | val p=>trivial
    | new rel c =>
     rw[hk] at h2;have h3:=h1.2.1;rw[hk] at h3;have h4:=List.all_eq_true.1 h1.2.2;rw[hk] at h4;show ContOK (c.stage k) w (own j);rw[←hst c k (fun s hs=>by simpa using h4 s hs) h3];exact h2.2.2
   | base x k =>
    simp only[Yl,AcB,decide_eq_true_eq] at h1;simp only[Ol]
    cases hg:G[x]? with
    | none=>trivial
    | some g =>
     have h2:(sts G).getD x []=g.2.stores.map (·.1):=by simp[sts,hg]
     rw[h2] at h1;show ContOK (g.2.stage k) w g.1;rw[←hst g.2 k (fun s hs=>by simpa using List.all_eq_true.1 h1.2 s hs) h1.1];exact mid.blocks g (List.mem_of_getElem? hg)))
   (fun i j hi hj hn hn' he=>mid.inj i j (hal i hi) (hal j hj) hn hn' he)
  have ha:Ap a0 (fun d=>a.tmps.getD d undef) (CK ops)=a:=by
   have h1:=DW (fun d=>a.tmps.getD d undef) (CK ops) a0
   have h2:(Ap a0 (fun d=>a.tmps.getD d undef) (CK ops)).tmps=a.tmps:=by
    apply Adh;intro t
    by_cases ht:t<a0.tmps.size
    ·rw[EM _ _ _ _ ht]
     by_cases hm2:t∈CK ops
     ·rw[if_pos hm2]
      have:t<a.tmps.size:=by rw[mid.size];exact ht
      simp[this]
     ·rw[if_neg hm2]
      exact(mid.frame t (fun i o hi _ hd=>hm2 (List.mem_filterMap.2 ⟨o,by simpa using Adm hi,hd⟩))).symm
    ·rw[AcI (by rw[Fh];omega),AcI (by rw[mid.size];omega)]
   rw[←mid.defers] at h1;generalize Ap a0 (fun d=>a.tmps.getD d undef) (CK ops)=b at h1 h2;cases a;cases b;simp only at h1 h2;rw[h1,h2]
  rw[←hdsts,ha] at hq;exact hq
 ·unfold Hz
  exact AcE (List.length_filter_le _ _) (by simp)
 ·refine⟨fun _=>0,⟨by simp,fun j oj _ hl=>(by rw[Bq] at hl;cases hl),rfl,rfl,hS0,hBig,fun _ _=>rfl,fun i o d _ _ hl=>(by rw[Bq] at hl;cases hl),fun x hx=>?_,fun i j hl=>(by rw[Bq] at hl;cases hl)⟩⟩
  have e:x.2.at (fun s=>(Array.replicate ops.size false).getD s false)=x.2.stage 0:=Cont.at_stage 0 (fun s h=>by simp at h) (fun s _=>Bq _ _);rw[e];exact(hG0.at x hx).2
theorem Ai{id:Nat}{a0:Act}{w0:World}(S:World→Prop)(B:Nat)(G:List (Nat×Cont))(kn:List Kw)(tg:List Tg)(ds:List (Option Nat))(base:List (Nat×Value))(wt:List (List Wt))(fw:List Wt)(dl:List Nat)(hm:P.follows .mixedOrders=true)(hB:Aak ops a0.tmps.size (sts G) kn tg ds (base.map (·.1)) wt fw dl=true)(hb0:Gr a0 base)(hS0:S w0.drew)(hBig:B≤w0.heap.size)(hG0:GAll B w0.drew G)(hGd:Apart G)(hSR:∀w w',S w→Touch (fun k=>B≤k∨k∈G.map (·.1)) w w'→S w')(steps:AllSteps3 P S B G kn tg ds base wt 0 ops.toList)(fin:∀(vs own:Nat→_) (w:World),S w→B≤w.heap.size→H4 B G kn ds own vs w fw→(∀i j,i<ops.size→j<ops.size→(kwAt kn i).isNew=true→(kwAt kn j).isNew=true→own i=own j→i=j)→Q .normal (Ap a0 vs dl) w):(Code.region id ops true).wp P Q a0 w0:=
 wp_region_any hm (CB S B G kn tg ds base wt fw dl hB hb0 hS0 hBig hG0 hGd hSR steps fin)
end
theorem sV{P:Program}{G:List (Nat×Cont)}{kn:List Kw}{tg:List Tg}{own:Nat→Nat}{i:Nat}{a:Act}{o:Oper}{w:World}{v:Value}{Q:Exit→Act→World→Prop}{g r:Prop}(h:(execOp a.eval o).run P w=.ok (.value v) w)(hg:g:=by exact trivial)(hp:Gv G kn tg own w i v w:=by exact⟨Touch.refl _ _,rfl⟩):(g∧∀K:Act→World→Prop,(∀v w',Gv G kn tg own w i v w'→K (a.put o.dst v) w')→o.wp P a w K Q)∨r:=.inl ⟨hg,fun _ hK=>AR h (hK _ _ hp)⟩
theorem sG{P:Program}{G:List (Nat×Cont)}{kn:List Kw}{tg:List Tg}{own:Nat→Nat}{i:Nat}{a:Act}{o:Oper}{w:World}{v:Value}{Q:Exit→Act→World→Prop}{g r:Prop}(hg:g)(h:(execOp a.eval o).run P w=.ok (.value v) w)(hp:Gv G kn tg own w i v w:=by exact⟨Touch.refl _ _,rfl⟩):(g∧∀K:Act→World→Prop,(∀v w',Gv G kn tg own w i v w'→K (a.put o.dst v) w')→o.wp P a w K Q)∨r:=.inl ⟨hg,fun _ hK=>AR h (hK _ _ hp)⟩
theorem sL {P:Program} {S:World→Prop} {B:Nat} {G:List (Nat×Cont)} {kn:List Kw} {tg:List Tg} {ds:List (Option Nat)} {base:List (Nat×Value)} {wt:List Wt} {i:Nat} {o:Oper} (h:∀{Q:Exit→Act→World→Prop} {a:Act} {w:World} {own:Nat→Nat} {_:S w} {_:B≤w.heap.size},Gr a base→H4 B G kn ds own (fun d=>a.eval (.tmp d)) w wt→((match o.guard with | none=>True | some (g,b)=>a.eval (.tmp (Jk ds g))=.bool b)∧∀K:Act→World→Prop,(∀v w',Gv G kn tg own w i v w'→K (a.put o.dst v) w')→o.wp P a w K Q)∨((match o.guard with | none=>False | some (g,b)=>a.eval (.tmp (Jk ds g))=.bool (!b)∨a.eval (.tmp (Jk ds g))=undef)∧Gv G kn tg own w i undef w)):UP P S B G kn tg ds base wt i o:=fun _ _ _ _ p q f k=>@h _ _ _ _ p q f k
end Go.Proofs.YthghcjepdhkfdaaGreatDoor
namespace Go.Proofs.YthghcjepdhkfdaaGreatDoor
open Go.RowKit Go.Proofs
open Tryz
theorem Hid.mk{p:Prop}(h:p):Hid p:=h
structure Only (b:Nat) (w w':World):Prop where
 os:w'.os=w.os
 tape:w'.tape=w.tape
 output:w'.output=w.output
 size:w'.heap.size=w.heap.size
 block:∀k,k≠b→w'.heap[k]?=w.heap[k]?
theorem Only.setCell{b:Nat}{w w':World}(h:Only b w w')(i:Nat)(v:Value):Only b w (w'.setCell ⟨b,i,none⟩ v):=
 ⟨h.os,h.tape,h.output,by rw[←h.size];simp[World.setCell],fun k hk=>by rw[Below.heap_setCell _ _ _ _ hk];exact h.block k hk⟩
theorem Only.refl(b:Nat)(w:World):Only b w w:=⟨rfl,rfl,rfl,rfl,fun _ _=>rfl⟩
theorem Only.trans{b:Nat}{u v w:World}(h:Only b u v)(k:Only b v w):Only b u w:=⟨k.os.trans h.os,k.tape.trans h.tape,k.output.trans h.output,k.size.trans h.size,fun i hi=>(k.block i hi).trans (h.block i hi)⟩
theorem Only.cell{b:Nat}{w w':World}(h:Only b w w')(k i:Nat)(hk:k≠b):w'.cell? ⟨k,i,none⟩=w.cell? ⟨k,i,none⟩:=World.cell?_of_block (w:=w) (h.block k hk)
theorem Only.below{b B:Nat}{w w':World}(h:Only b w w')(hb:B≤b):Below B w w':=⟨h.os,h.tape,h.output,by rw[h.size];exact Ac4 _,fun k hk=>h.block k (by omega)⟩
theorem Aj{B:Nat}{w w':World}(h:Below B w w'){k:Nat}{o:Obj}(hk:w.heap[k]?=some o)(hB:k<B):w'.heap[k]?=some o:=(h.block k hB).trans hk
theorem Aa{w:World}{k:Nat}{o:Obj}(h:w.heap[k]?=some o):k<w.heap.size:=(Array.getElem?_eq_some_iff.1 h).1
theorem Cd(w:World)(g:Nat)(cs:Array Value):Only g w (w.setRow g cs):=
 ⟨rfl,rfl,rfl,by simp,fun k hk=>setRow_other w g k cs hk⟩
theorem only_set{w:World}{g i:Nat}{v:Value}:Only g w (w.setCell ⟨g,i,none⟩ v):=(Only.refl g w).setCell i v
theorem H6{P:Program}{ops:Array Oper}{rest:List Oper}{o:Oper}{a:Act}{w:World}{Q:Exit→Act→World→Prop}(hgd:o.guard=none)(ty:TypeId)(x y:Operand)(ho:o.op=.store ty x y)(g:Nat)(cells:Array Value)(hx:a.eval x=.pointer (some ⟨g,0,none⟩))(hy:a.eval y=.agg cells)(t:TypeId)(old:Array Value)(hg:w.heap[g]?=some (.cells old t (0,0)))(hi:(P.info? ty).map (·.size)=some cells.size)(hold:old.size=cells.size)(h1:cells.all (·.oneCell')=true)(h:∀w2,w2.heap[g]?=some (.cells cells t (0,0))→Only g w w2→wpList P ops Q rest (a.put o.dst undef) w2):wpList P ops Q (o::rest) a w:=
 wpList_store_row hgd ty x y ho g cells hx hy t old hg hi hold h1 (h _ (setRow_heap w g old cells t (0,0) hg) (Cd w g cells))
theorem AH{P:Program}{c:Code}{Q:Exit→Act→World→Prop}{a:Act}{w:World}(I:World→Prop)(hI:I w)(h:∀w',I w'→c.wp P Q a w'):c.wp P Q a w:=h w hI
theorem Ae{P:Program}{ops:Array Oper}{Q:Exit→Act→World→Prop}{a:Act}{w:World}{rest:List Oper}{o:Oper}{v:Value}(hw:Region.wanted o (yielded ops a.tmps)=true)(hr:(execOp a.eval o).run P w=.ok (.value v) w)(h:wpList P ops Q rest (a.put o.dst v) w):wpList P ops Q (o::rest) a w:=by
 unfold wpList;rw[if_pos hw];exact .inl (by unfold Oper.wp;rw[hr];exact h)
theorem CF{P:Program}{ops:Array Oper}{Q:Exit→Act→World→Prop}{a:Act}{w:World}{rest:List Oper}{o:Oper}(hw:Region.wanted o (yielded ops a.tmps)=true)(h:o.wp P a w (wpList P ops Q rest) Q):wpList P ops Q (o::rest) a w:=by
 unfold wpList;rw[if_pos hw];exact .inl h
theorem AP(w:World)(A B C:Obj):(((w.alloc A).alloc B).alloc C).heap[w.heap.size+1+1]?=some C:=by
 have h:=heap_alloc_new ((w.alloc A).alloc B) C;have e:((w.alloc A).alloc B).heap.size=w.heap.size+1+1:=by simp
 rwa [e] at h
theorem AG(w:World)(A B C:Obj):(((w.alloc A).alloc B).alloc C).heap[w.heap.size+1]?=some B:=by
 rw[Below.heap_alloc _ _ _ (by simp)];exact heap_alloc2_new w A B
theorem AA(w:World)(A B C:Obj):(((w.alloc A).alloc B).alloc C).heap[w.heap.size]?=some A:=by
 rw[Below.heap_alloc _ _ _ (by simp;omega)];exact heap_alloc2_old w A B
-- regions
def Ey(cs:Array Value)(t:TypeId)(ob:Obj):Prop:=ob=.cells cs t (0,0)
def UQ(b:Nat)(v:Value):Prop:=v=.pointer (some ⟨b,0,none⟩)
def UR(n b:Nat)(v:Value):Prop:=v=.slice (some ⟨b,0,none⟩) n n
def kv(x:Value):Kw:=.val (fun v=>v=x)
def kp(cs:Array Value)(t:TypeId)(s:Nat)(cs':Array Value):Kw:=.new UQ ⟨Ey cs t,[(s,Ey cs' t)]⟩
def ks(n:Nat)(cs:Array Value)(t:TypeId):Kw:=.new (UR n) ⟨Ey cs t,[]⟩
def AN(cs:Array Value)(t:TypeId):Cont:=⟨Ey cs t,[]⟩
def once(cs:Array Value)(t:TypeId)(s:Nat)(cs':Array Value):Cont:=⟨Ey cs t,[(s,Ey cs' t)]⟩
theorem Ak{cs:Array Value}{t:TypeId}{w:World}{b:Nat}(h:ContOK (Ey cs t) w b):w.heap[b]?=some (.cells cs t (0,0)):=by
 obtain⟨ob,h,rfl⟩:=h;exact h
theorem Ao{cs:Array Value}{t:TypeId}{w:World}{b:Nat}(h:w.heap[b]?=some (.cells cs t (0,0))):ContOK (Ey cs t) w b:=⟨_,h,rfl⟩
theorem Ad{w w':World}(h:Below w.heap.size w w'):Touch (fun _=>False) w w':=⟨h.os,h.tape,h.output,h.size,fun k hk _=>h.block k hk⟩
theorem Ag{b:Nat}{w w':World}(h:Only b w w'):Touch (fun k=>k=b) w w':=⟨h.os,h.tape,h.output,by rw[h.size];exact Ac4 _,fun k _ hn=>h.block k hn⟩
def GLow(B0:Nat):List (Nat×Cont)→Prop
 | []=>True
 | x::l=>B0≤x.1∧GLow B0 l
theorem GLow.at{B0:Nat}:∀{l:List (Nat×Cont)},GLow B0 l→∀k∈l.map (·.1),B0≤k
 | [],_,_,h=>by simp at h
 | x::l,hl,k,h=>by
  rw[AcG] at h
  rcases List.mem_cons.1 h with rfl | h
  ·exact hl.1
  ·exact GLow.at hl.2 k h
theorem A6{wd:World}{G:List (Nat×Cont)}{B:Nat}(hB:wd.heap.size≤B)(hG:GLow wd.heap.size G)(w w':World)(h:Below wd.heap.size wd w)(ht:Touch (fun k=>B≤k∨k∈G.map (·.1)) w w'):Below wd.heap.size wd w':=
 h.trans ⟨ht.os,ht.tape,ht.output,ht.size,fun k hk=>ht.block k (Adb hk h.size) (fun e=>e.elim (fun e=>by omega) (fun e=>by have:=hG.at k e;omega))⟩
theorem E8{f:FuncId}(hc:∀args w,(callFunc f args).run prog w=.ok (.enter f args) w)(xs:Array Operand)(ts:Array TypeId){o:Oper}{a:Act}{w:World}(ho:o.op=.call { callee:=.value (.func f),args:=xs,argTypes:=ts }):(execOp a.eval o).run prog w=.ok (.enter f (xs.map a.eval)) w:=by
 unfold execOp;rw[ho];simp only[resolve,Sem.run_bind];generalize xs.map a.eval=args;simp[Act.eval,Deferred.ofValue,invoke,go_sem,hc]
theorem JJ{f:FuncId}(hc:∀args w,(callFunc f args).run prog w=.ok (.enter f args) w){xs:Array Operand}{ts:Array TypeId}{o:Oper}{a:Act}{w:World}{K:Act→World→Prop}{Q:Exit→Act→World→Prop}{R:Value→World→Prop}(ho:o.op=.call { callee:=.value (.func f),args:=xs,argTypes:=ts }){vs:Array Value}(hx:xs.map a.eval=vs)(hC:Calls prog f vs w fun r w'=>∃v,r=.returned v∧R v w')(h:∀v w',R v w'→K (a.put o.dst v) w'):o.wp prog a w K Q:=by
 refine Gu (E8 hc xs ts ho) ?_;rw[hx];exact hC.mono (fun e w' ⟨v,he,hr⟩=>⟨v,he,h v w' hr⟩)
theorem AD{f:FuncId}(hc:∀args w,(callFunc f args).run prog w=.ok (.enter f args) w){xs:Array Operand}{ts:Array TypeId}{o:Oper}{a:Act}{w:World}{K:Act→World→Prop}{Q:Exit→Act→World→Prop}(ho:o.op=.call { callee:=.value (.func f),args:=xs,argTypes:=ts }){vs:Array Value}{v:Value}(hx:xs.map a.eval=vs)(hC:Calls prog f vs w fun r w'=>r=.returned v∧Below w.heap.size w w')(h:∀w',Below w.heap.size w w'→K (a.put o.dst v) w'):o.wp prog a w K Q:=
 JJ hc ho hx (hC.mono (fun e w' ⟨he,hb⟩=>⟨v,he,rfl,hb⟩)) (R:=fun u w'=>u=v∧Below w.heap.size w w') (fun u w' ⟨hu,hb⟩=>by subst hu;exact h w' hb)
theorem BE{a:Act}{x:Operand}{X:Value}(hx:a.eval x=X):#[x].map a.eval=#[X]:=by simp[hx]
theorem CC{a:Act}{x y:Operand}{X Y:Value}(hx:a.eval x=X)(hy:a.eval y=Y):#[x,y].map a.eval=#[X,Y]:=by simp[hx,hy]
theorem JK{a:Act}{x y z:Operand}{X Y Z:Value}(hx:a.eval x=X)(hy:a.eval y=Y)(hz:a.eval z=Z):#[x,y,z].map a.eval=#[X,Y,Z]:=by simp[hx,hy,hz]
theorem Iw{a:Act}{x y z u:Operand}{X Y Z U:Value}(hx:a.eval x=X)(hy:a.eval y=Y)(hz:a.eval z=Z)(hu:a.eval u=U):#[x,y,z,u].map a.eval=#[X,Y,Z,U]:=by simp[hx,hy,hz,hu]
theorem Ab{a:Act}{o:Oper}{w:World}{x:Operand}(ho:o.op=.move x){v:Value}(h:a.eval x=v):(execOp a.eval o).run prog w=.ok (.value v) w:=by unfold execOp;simp only[ho,Sem.run_pure,h]
theorem Az{a:Act}{o:Oper}{w:World}{x:Operand}(ho:o.op=.assign x){v:Value}(h:a.eval x=v):(execOp a.eval o).run prog w=.ok (.value v) w:=by unfold execOp;simp only[ho,Sem.run_pure,h]
theorem Sx{a:Act}{o:Oper}{w:World}{c x y:Operand}(ho:o.op=.pick c x y)(hc:a.eval c=.bool true){v:Value}(h:a.eval x=v):(execOp a.eval o).run prog w=.ok (.value v) w:=by
 unfold execOp;simp[ho,hc,asBool,Sem.run_pure,h]
theorem K8{a:Act}{o:Oper}{w:World}{c x y:Operand}(ho:o.op=.pick c x y)(hc:a.eval c=.bool false){v:Value}(h:a.eval y=v):(execOp a.eval o).run prog w=.ok (.value v) w:=by
 unfold execOp;simp[ho,hc,asBool,Sem.run_pure,h]
theorem CL{a:Act}{o:Oper}{w:World}{x:Operand}{i:Nat}(ho:o.op=.extract x i){vs:Array Value}(hx:a.eval x=.tuple vs){v:Value}(hv:vs[i]?=some v):(execOp a.eval o).run prog w=.ok (.value v) w:=by
 unfold execOp;simp only[ho,hx];simp[go_sem,hv]
theorem AU{o:Oper}{a:Act}{w:World}{K:Act→World→Prop}{Q:Exit→Act→World→Prop}{t:TypeId}{cs:Array Value}(hz:∀w,(zeroValue t).run prog w=.ok (.agg cs) w)(ho:o.op=.alloc t)(h:∀w',Below w.heap.size w w'→w'.heap[w.heap.size]?=some (.cells cs t (0,0))→K (a.put o.dst (.pointer (some ⟨w.heap.size,0,none⟩))) w'):o.wp prog a w K Q:=by
 have hz:=hz w;unfold Oper.wp execOp;simp only[ho];simp[go_sem,hz];exact h _ ((Below.refl _ _).alloc (Ac4 _) _) (heap_alloc_new w _)
theorem EN {P:Program} {fn:Func} {p q:Tmp} {ty ty':TypeId} (h:fn.results=#[.cell p ty,.cell q ty']) (tmps:Array Value) (w:World) (g g':Nat)
  (hp:tmps.getD p undef=.pointer (some ⟨g,0,none⟩)) (hq:tmps.getD q undef=.pointer (some ⟨g',0,none⟩)) {t t':TypeId} {fr fr':Nat×Nat} {d d':TypeDesc} (cs cs':Array Value) (hg:w.heap[g]?=some (.cells cs t fr)) (hg':w.heap[g']?=some (.cells cs' t' fr'))
  (hi:(P.info? ty).map (·.size)=some cs.size) (hi':(P.info? ty').map (·.size)=some cs'.size)
  (hu:P.underlying ty=some d) (hd:(match d with | .struct _ | .array _ _=>true | _=>false)=true)
  (hu':P.underlying ty'=some d') (hd':(match d' with | .struct _ | .array _ _=>true | _=>false)=true) :
  (results fn tmps).run P w=.ok (.tuple #[.agg cs,.agg cs']) w:=by
 have hp':tmps[p]?.getD undef=.pointer (some ⟨g,0,none⟩):=by simpa using hp
 have hq':tmps[q]?.getD undef=.pointer (some ⟨g',0,none⟩):=by simpa using hq
 simp[results,h,hp',hq',asAddr,run_loadVar_row w g t ty cs fr d hg hu hd hi,run_loadVar_row w g' t' ty' cs' fr' d' hg' hu' hd' hi']
theorem DX {P:Program} {fn:Func} {p u:Tmp} {ty:TypeId} (h:fn.results=#[.cell p ty,.tmp u]) (tmps:Array Value) (w:World) (g:Nat) {v:Value}
  (hp:tmps.getD p undef=.pointer (some ⟨g,0,none⟩)) (hq:tmps.getD u undef=v) {t:TypeId} {fr:Nat×Nat} {d:TypeDesc} (cs:Array Value) (hg:w.heap[g]?=some (.cells cs t fr))
  (hi:(P.info? ty).map (·.size)=some cs.size) (hu:P.underlying ty=some d) (hd:(match d with | .struct _ | .array _ _=>true | _=>false)=true) :
  (results fn tmps).run P w=.ok (.tuple #[.agg cs,v]) w:=by
 have hp':tmps[p]?.getD undef=.pointer (some ⟨g,0,none⟩):=by simpa using hp
 have hq':tmps[u]?.getD undef=v:=by simpa using hq
 simp[results,h,hp',hq',asAddr,run_loadVar_row w g t ty cs fr d hg hu hd hi]
theorem BC{b:Nat}{t:TypeId}:∀(vs:List Value) (o:Nat) (w:World) (C:Array Value),w.heap[b]?=some (.cells C t (0,0))→o+vs.length≤C.size →∃C':Array Value,(w.setCells b o vs).heap[b]?=some (.cells C' t (0,0))∧C'.size=C.size∧(∀j,j<vs.length→C'[o+j]?=vs[j]?)∧(∀j,j<o∨o+vs.length≤j→C'[j]?=C[j]?)∧Only b w (w.setCells b o vs)
 | [],_,w,C,hg,_=>⟨C,hg,rfl,fun j hj=>by simp at hj,fun _ _=>rfl,Only.refl b w⟩
 | x::vs,o,w,C,hg,hl=>by
  simp only[Ada] at hl;obtain⟨C',h1,h2,h3,h4,h5⟩:=BC vs (o+1) (w.setCell ⟨b,o,none⟩ x) (C.setIfInBounds o x) (heap_setCell_same w b o C t x hg) (by simp;omega);refine⟨C',h1,by rw[h2];simp,fun j hj=>?_,fun j hj=>?_,only_set.trans h5⟩
  ·cases j with
   | zero =>
    rw[AcU,h4 o (.inl (by omega)),Adf];simp;omega
   | succ j =>
    simp only[Ada] at hj;have:=h3 j (by omega);rw[show o+1+j=o+(j+1) by omega] at this;rw[this];simp
  ·simp only[Ada] at hj
   rw[h4 j (by omega),Adf,if_neg (by omega)]
theorem D4{w:World}{b o n:Nat}{C:Array Value}{t:TypeId}(hg:w.heap[b]?=some (.cells C t (0,0)))(h:o+n≤C.size):w.there b o n:=fun j hj=>by
 refine⟨?_,frozen_of_row w b (o+j) _ _ hg⟩;rw[cell_of_row w b (o+j) _ _ _ hg,AcN (by omega)];rfl
def W32(x:Int):Prop:=0≤x∧x<4294967296
def Bc(x y:Int):Int:=(x+y)%4294967296
def An(x y:Int):Int:=((x.toNat ^^^ y.toNat:Nat):Int)
theorem BF(x y:Int):W32 (Bc x y):=by unfold W32 Bc;omega
theorem A8{x y:Int}(hx:W32 x)(hy:W32 y):W32 (An x y):=by
 unfold W32 at *;have:=Nat.xor_lt_two_pow (x:=x.toNat) (y:=y.toNat) (n:=32) (by omega) (by omega);unfold An;omega
def WA(k:IntKind)(n:Nat)(s:Nat→Int):Array Value:=((AcA n).map fun i=>Value.int k (s i)).toArray
theorem A5(k:IntKind)(n:Nat)(s:Nat→Int):(WA k n s).size=n:=by simp[WA]
theorem Er(k:IntKind)(n:Nat)(s:Nat→Int)(i:Nat)(h:i<n):(WA k n s)[i]?=some (.int k (s i)):=by simp[WA,h]
def upd(s:Nat→Int)(i:Nat)(v:Int):Nat→Int:=fun j=>if j=i then v else s j
theorem H7{cs:Array Value}{k:IntKind}{n:Nat}{s:Nat→Int}(hs:cs.size=n)(h:∀i,i<n→cs[i]?=some (.int k (s i))):cs=WA k n s:=by
 apply Adh;intro i
 by_cases hi:i<n
 ·rw[h i hi,Er k n s i hi]
 ·rw[AcI (by omega),AcI (by rw[A5];omega)]
theorem US(k:IntKind)(n:Nat)(s:Nat→Int)(i:Nat)(v:Int)(_h:i<n):(WA k n s).setIfInBounds i (.int k v)=WA k n (upd s i v):=by
 apply H7
 ·simp[A5]
 ·intro j hj
  rw[Adf]
  by_cases e:i=j
  ·subst e;simp[A5,hj,upd]
  ·rw[if_neg e,Er k n s j hj];simp only[upd];rw[if_neg (fun h=>e h.symm)]
theorem K9{k:IntKind}{n:Nat}{s t:Nat→Int}(h:∀i,i<n→s i=t i):WA k n s=WA k n t:=
 H7 (A5 k n s) (fun i hi=>by rw[Er k n s i hi,h i hi])
theorem PL{x:Int}(h:(Lit.int .u32 x).wf=true):W32 x:=by
 have:=bounds_u32 h;unfold W32;omega
def B1(k:IntKind)(t:TypeId)(n:Nat)(s:Nat→Int)(ob:Obj):Prop:=∃C fr,ob=.cells C t fr∧n≤C.size∧(∀i,i<n→¬(fr.1≤i∧i<fr.2))∧∀i,i<n→C[i]?=some (.int k (s i))
def RowAt(w:World)(b:Nat)(k:IntKind)(t:TypeId)(n:Nat)(s:Nat→Int):Prop:=ContOK (B1 k t n s) w b
theorem RowAt.cell{w:World}{b:Nat}{k:IntKind}{t:TypeId}{n:Nat}{s:Nat→Int}(h:RowAt w b k t n s)(i:Nat)(hi:i<n):w.cell? ⟨b,i,none⟩=some (.int k (s i)):=by
 obtain⟨_,hg,C,fr,rfl,hs,hf,hc⟩:=h;rw[cell_of_row w b i _ _ _ hg,hc i hi]
theorem RowAt.free{w:World}{b:Nat}{k:IntKind}{t:TypeId}{n:Nat}{s:Nat→Int}(h:RowAt w b k t n s)(i:Nat)(hi:i<n):w.frozen? ⟨b,i,none⟩=false:=by
 obtain⟨_,hg,C,fr,rfl,hs,hf,hc⟩:=h;have:=hf i hi;simp only[World.frozen?,hg]
 simpa using this
theorem RowAt.lt{w:World}{b:Nat}{k:IntKind}{t:TypeId}{n:Nat}{s:Nat→Int}(h:RowAt w b k t n s):b<w.heap.size:=ContOK.lt h
theorem RowAt.block{w w':World}{b:Nat}{k:IntKind}{t:TypeId}{n:Nat}{s:Nat→Int}(h:RowAt w b k t n s)(e:w'.heap[b]?=w.heap[b]?):RowAt w' b k t n s:=by
 obtain⟨ob,hg,hc⟩:=h;exact⟨ob,e.trans hg,hc⟩
theorem RowAt.below{B:Nat}{w w':World}{b:Nat}{k:IntKind}{t:TypeId}{n:Nat}{s:Nat→Int}(h:RowAt w b k t n s)(hb:Below B w w')(hB:b<B):RowAt w' b k t n s:=h.block (hb.block b hB)
theorem RowAt.only{g:Nat}{w w':World}{b:Nat}{k:IntKind}{t:TypeId}{n:Nat}{s:Nat→Int}(h:RowAt w b k t n s)(ho:Only g w w')(hB:b≠g):RowAt w' b k t n s:=h.block (ho.block b hB)
theorem RowAt.alloc{w:World}{b:Nat}{k:IntKind}{t:TypeId}{n:Nat}{s:Nat→Int}(h:RowAt w b k t n s)(o:Obj):RowAt (w.alloc o) b k t n s:=h.block (Below.heap_alloc _ _ _ h.lt)
theorem RowAt.other{w:World}{b g i:Nat}{k:IntKind}{t:TypeId}{n:Nat}{s:Nat→Int}(h:RowAt w b k t n s)(v:Value)(hB:b≠g):RowAt (w.setCell ⟨g,i,none⟩ v) b k t n s:=h.only only_set hB
theorem RowAt.set{w:World}{b:Nat}{k:IntKind}{t:TypeId}{n:Nat}{s:Nat→Int}(h:RowAt w b k t n s)(i:Nat)(v:Int):RowAt (w.setCell ⟨b,i,none⟩ (.int k v)) b k t n (upd s i v):=by
 obtain⟨_,hg,C,fr,rfl,hs,hf,hc⟩:=h;refine⟨_,Lib.heap_setCell_same hg _,_,_,rfl,by simpa using hs,hf,fun j hj=>?_⟩;rw[Adf]
 by_cases e:i=j
 ·subst e;simp[upd];omega
 ·rw[if_neg e,hc j hj];simp only[upd];rw[if_neg (fun h=>e h.symm)]
theorem RowAt.mono{w:World}{b:Nat}{k:IntKind}{t:TypeId}{n m:Nat}{s s':Nat→Int}(h:RowAt w b k t n s)(hm:m≤n)(e:∀i,i<m→s i=s' i):RowAt w b k t m s':=by
 obtain⟨_,hg,C,fr,rfl,hs,hf,hc⟩:=h;exact⟨_,hg,C,fr,rfl,by omega,fun i hi=>hf i (by omega),fun i hi=>by rw[hc i (by omega),e i hi]⟩
theorem RowAt.of{w:World}{b:Nat}{k:IntKind}{t:TypeId}{n:Nat}{s:Nat→Int}(h:w.heap[b]?=some (.cells (WA k n s) t (0,0))):RowAt w b k t n s:=
 ⟨_,h,_,_,rfl,by rw[A5];exact Ac4 _,fun i hi=>by simp,fun i hi=>Er k n s i hi⟩
theorem RowAt.marked{w:World}{b:Nat}{k:IntKind}{t:TypeId}{n p q:Nat}{s:Nat→Int}(h:w.heap[b]?=some (.cells (WA k n s) t (p,q)))(hp:n≤p):RowAt w b k t n s:=
 ⟨_,h,_,_,rfl,by rw[A5];exact Ac4 _,fun i hi=>by simp;omega,fun i hi=>Er k n s i hi⟩
-- steps
theorem Am{a:Act}{o:Oper}{w:World}{x y:Operand}{t:TypeId}(ho:o.op=.indexAddr t x y)(ht:Tryz.prog.underlying t=some (.slice (Tryz.prog.elem t)))(h1:∀w,(sizeOf (Tryz.prog.elem t)).run prog w=.ok 1 w){b f n c i:Nat}(hx:a.eval x=.slice (some ⟨b,f,none⟩) n c)(hy:a.eval y=.int .i64 (i:Int))(hi:i<n):(execOp a.eval o).run prog w=.ok (.value (.pointer (some ⟨b,f+i,none⟩))) w:=by
 unfold execOp;simp only[ho,hx,hy,Sem.run_bind];rw[run_indexAt_slice w t _ n c .i64 (i:Int) ht,if_pos ⟨by omega,by omega⟩,h1];simp[Addr.add]
theorem Au{a:Act}{o:Oper}{w:World}{x:Operand}{t:TypeId}(ho:o.op=.load t x){p:Addr}(hx:a.eval x=.pointer (some p)){v:Value}(hr:(Instr.loadAt t (.pointer (some p))).run prog w=.ok v w):(execOp a.eval o).run prog w=.ok (.value v) w:=by
 unfold execOp;simp[ho,hx,hr]
theorem Aw{w:World}{p:Addr}{n:Int}(h:w.cell? p=some (.int .i64 n)):(Instr.loadAt 3 (.pointer (some p))).run prog w=.ok (.int .i64 n) w:=by
 simp[go_sem,h]
theorem BJ{a:Act}{o:Oper}{w:World}{x y:Operand}{op:BinOp}{t u:TypeId}(ho:o.op=.binOp op t x y u){X Y V:Value}(hg:(eqGuard op t x y X Y).run prog w=.ok () w)(hx:a.eval x=X)(hy:a.eval y=Y)(hr:(binOp op t X Y).run prog w=.ok V w):(execOp a.eval o).run prog w=.ok (.value V) w:=by
 unfold execOp;simp only[ho,hx,hy,Sem.run_bind];rw[hg];simp[hr]
theorem Cf{n:Int}(h0:-9223372036854775808≤n)(h1:n<9223372036854775808):IntKind.i64.wrap n=n:=by
 rw[IntKind.wrap_i64];omega
theorem BM{a:Act}{o:Oper}{w:World}{x y:Operand}(ho:o.op=.binOp .add 3 x y 3){m n:Int}(hx:a.eval x=.int .i64 m)(hy:a.eval y=.int .i64 n)(h0:-9223372036854775808≤m+n)(h1:m+n<9223372036854775808):(execOp a.eval o).run prog w=.ok (.value (.int .i64 (m+n))) w:=BJ ho rfl hx hy (by simp[go_sem,Cf h0 h1])
theorem Gw{a:Act}{o:Oper}{w:World}{x y:Operand}(ho:o.op=.binOp .mul 3 x y 3){m n:Int}(hx:a.eval x=.int .i64 m)(hy:a.eval y=.int .i64 n)(h0:-9223372036854775808≤m*n)(h1:m*n<9223372036854775808):(execOp a.eval o).run prog w=.ok (.value (.int .i64 (m*n))) w:=BJ ho rfl hx hy (by simp[go_sem,Cf h0 h1])
theorem GN(a:Nat)(ha:a<4294967296):(BitVec.ofInt 64 (a:Int)).toNat=a:=by
 rw[BitVec.ofInt_natCast,BitVec.toNat_ofNat];exact Nat.mod_eq_of_lt (by omega)
theorem Ez{x y:Int}(hx:W32 x)(hy:W32 y):bits .xor .i64 x y=An x y:=by
 unfold W32 at hx hy;obtain⟨a,rfl⟩:=AcQ hx.1;obtain⟨b,rfl⟩:=AcQ hy.1;have h:=Nat.xor_lt_two_pow (x:=a) (y:=b) (n:=32) (by omega) (by omega);show IntKind.i64.wrap ((BitVec.ofInt 64 (a:Int) ^^^ BitVec.ofInt 64 (b:Int)).toNat:Int)=_;rw[BitVec.toNat_xor,GN a (by omega),GN b (by omega),Cf (by omega) (by omega)];simp[An]
theorem UT{x y:Int}(hx:W32 x)(hy:W32 y):bits .or .i64 x y=((x.toNat ||| y.toNat:Nat):Int):=by
 unfold W32 at hx hy;obtain⟨a,rfl⟩:=AcQ hx.1;obtain⟨b,rfl⟩:=AcQ hy.1;have h:=Nat.or_lt_two_pow (x:=a) (y:=b) (n:=32) (by omega) (by omega);show IntKind.i64.wrap ((BitVec.ofInt 64 (a:Int) ||| BitVec.ofInt 64 (b:Int)).toNat:Int)=_;rw[BitVec.toNat_or,GN a (by omega),GN b (by omega),Cf (by omega) (by omega)];simp
theorem CM{a:Act}{o:Oper}{w:World}{x y:Operand}(ho:o.op=.binOp .xor 3 x y 3){m n:Int}(hx:a.eval x=.int .i64 m)(hy:a.eval y=.int .i64 n)(hm:W32 m)(hn:W32 n):(execOp a.eval o).run prog w=.ok (.value (.int .i64 (An m n))) w:=BJ ho rfl hx hy (by simp[go_sem,Ez hm hn])
theorem BN{o:Oper}{a:Act}{w:World}{K:Act→World→Prop}{Q:Exit→Act→World→Prop}{x y:Operand}(ho:o.op=.store 3 x y){b i n:Nat}{s:Nat→Int}{v:Int}(hx:a.eval x=.pointer (some ⟨b,i,none⟩))(hy:a.eval y=.int .i64 v)(hr:RowAt w b .i64 3 n s)(hi:i<n)(h:∀w',RowAt w' b .i64 3 n (upd s i v)→Only b w w'→K (a.put o.dst undef) w'):o.wp prog a w K Q:=by
 have hc:=hr.cell i hi;have hf:=hr.free i hi;have h':=h _ (hr.set i v) only_set;unfold Oper.wp execOp;simp only[ho,hx,hy];simp[go_sem,hc,hf];exact h'
theorem Touch.drew{T:Nat→Prop}{w w':World}(h:Touch T w w'):Touch T w w'.drew:=⟨h.os,h.tape,h.output,h.size,h.block⟩
theorem Ca{w v:World}{b:Nat}{G:List (Nat×Cont)}(hB:w.heap.size≤v.heap.size)(hG:∀k∈G.map (·.1),k=b:=by intro k hk;simpa using hk)(u u':World)(h:Touch (fun k=>k=b) w u)(ht:Touch (fun k=>v.heap.size≤k∨k∈G.map (·.1)) u u'):Touch (fun k=>k=b) w u':=
 ⟨ht.os.trans h.os,ht.tape.trans h.tape,ht.output.trans h.output,AcE h.size ht.size,fun k hk hn=>(ht.block k (Adb hk h.size) (fun e=>e.elim (fun e=>by omega) (fun e=>hn (hG k e)))).trans (h.block k hk hn)⟩
theorem Ar(w:World):(sizeOf (Tryz.prog.elem 171)).run prog w=.ok 1 w:=by kernel_rfl
theorem Bb{w:World}{b n:Nat}{s:Nat→Int}{x:Nat}(h:RowAt w b .i64 3 n s)(hx:x<n):w.cell? ⟨b,0+x,none⟩=some (.int .i64 (s x)):=by rw[Ac9];exact h.cell x hx
theorem Gn{v:Value}{b x:Nat}(h:v=.pointer (some ⟨b,0+x,none⟩)):v=.pointer (some ⟨b,x,none⟩):=by rw[Ac9] at h;exact h
theorem CD{b B:Nat}{w w':World}(h:Touch (fun k=>k=b) w w')(hb:B≤b)(hB:B≤w.heap.size):Below B w w':=⟨h.os,h.tape,h.output,h.size,fun k hk=>h.block k (by omega) (by omega)⟩
def Byts(n:Nat)(s:Nat→Int):Prop:=∀i,i<n→0≤s i∧s i<256
def ArrAt(w:World)(b:Nat)(k:IntKind)(t:TypeId)(n:Nat)(s:Nat→Int):Prop:=w.heap[b]?=some (.cells (WA k n s) t (0,0))
theorem ArrAt.row{w:World}{b:Nat}{k:IntKind}{t:TypeId}{n:Nat}{s:Nat→Int}(h:ArrAt w b k t n s):RowAt w b k t n s:=RowAt.of h
theorem ArrAt.cell{w:World}{b:Nat}{k:IntKind}{t:TypeId}{n:Nat}{s:Nat→Int}(h:ArrAt w b k t n s)(i:Nat)(hi:i<n):w.cell? ⟨b,i,none⟩=some (.int k (s i)):=h.row.cell i hi
theorem ArrAt.free{w:World}{b:Nat}{k:IntKind}{t:TypeId}{n:Nat}{s:Nat→Int}(h:ArrAt w b k t n s)(i:Nat):w.frozen? ⟨b,i,none⟩=false:=frozen_of_row w b i _ _ h
theorem ArrAt.lt{w:World}{b:Nat}{k:IntKind}{t:TypeId}{n:Nat}{s:Nat→Int}(h:ArrAt w b k t n s):b<w.heap.size:=Aa h
theorem ArrAt.block{w w':World}{b:Nat}{k:IntKind}{t:TypeId}{n:Nat}{s:Nat→Int}(h:ArrAt w b k t n s)(e:w'.heap[b]?=w.heap[b]?):ArrAt w' b k t n s:=e.trans h
theorem ArrAt.below{B:Nat}{w w':World}{b:Nat}{k:IntKind}{t:TypeId}{n:Nat}{s:Nat→Int}(h:ArrAt w b k t n s)(hb:Below B w w')(hB:b<B):ArrAt w' b k t n s:=h.block (hb.block b hB)
theorem ArrAt.kept{w w':World}{b:Nat}{k:IntKind}{t:TypeId}{n:Nat}{s:Nat→Int}(h:ArrAt w b k t n s)(hb:Below w.heap.size w w'):ArrAt w' b k t n s:=h.block (hb.block b h.lt)
theorem ArrAt.only{g:Nat}{w w':World}{b:Nat}{k:IntKind}{t:TypeId}{n:Nat}{s:Nat→Int}(h:ArrAt w b k t n s)(ho:Only g w w')(hB:b≠g):ArrAt w' b k t n s:=h.block (ho.block b hB)
theorem ArrAt.alloc{w:World}{b:Nat}{k:IntKind}{t:TypeId}{n:Nat}{s:Nat→Int}(h:ArrAt w b k t n s)(o:Obj):ArrAt (w.alloc o) b k t n s:=h.block (Below.heap_alloc _ _ _ h.lt)
theorem ArrAt.drew{w:World}{b:Nat}{k:IntKind}{t:TypeId}{n:Nat}{s:Nat→Int}(h:ArrAt w b k t n s):ArrAt w.drew b k t n s:=h
theorem ArrAt.other{w:World}{b g i:Nat}{k:IntKind}{t:TypeId}{n:Nat}{s:Nat→Int}(h:ArrAt w b k t n s)(v:Value)(hB:b≠g):ArrAt (w.setCell ⟨g,i,none⟩ v) b k t n s:=h.only only_set hB
theorem ArrAt.set{w:World}{b:Nat}{k:IntKind}{t:TypeId}{n:Nat}{s:Nat→Int}(h:ArrAt w b k t n s)(i:Nat)(v:Int)(hi:i<n):ArrAt (w.setCell ⟨b,i,none⟩ (.int k v)) b k t n (upd s i v):=by
 have:=heap_setCell_same w b i _ t (.int k v) h;rw[US k n s i v hi] at this;exact this
theorem ArrAt.congr{w:World}{b:Nat}{k:IntKind}{t:TypeId}{n:Nat}{s s':Nat→Int}(h:ArrAt w b k t n s)(e:∀i,i<n→s i=s' i):ArrAt w b k t n s':=by
 unfold ArrAt;rw[←K9 e];exact h
def CV(ty n:Nat):Prop:=∃m e,Tryz.prog.underlying ty=some (.array m e)∧(Tryz.prog.info? ty).map (·.size)=some n
theorem Fr(k:IntKind)(n:Nat)(s:Nat→Int):(WA k n s).all (·.oneCell')=true:=by
 simp[WA,Value.oneCell']
theorem Aq{ops:Array Oper}{rest:List Oper}{d:Option Tmp}{x:Operand}{t ty:TypeId}{ps:String}{af:Array Edge}{a:Act}{w:World}{Q:Exit→Act→World→Prop}{g n:Nat}{k:IntKind}{s:Nat→Int}(hA:CV ty n)(hg:ArrAt w g k ty n s)(hx:a.eval x=.pointer (some ⟨g,0,none⟩))(h:wpList prog ops Q rest (a.put d (.agg (WA k n s))) w):wpList prog ops Q ({ dst:=d,op:=.load ty x,type:=t,pos:=ps,after:=af,guard:=none }::rest) a w:=by
 obtain⟨m,e,h1,h3⟩:=hA;exact wpList_load_row rfl ty x rfl g hx ty _ (0,0) _ hg h1 rfl (by rw[A5];exact h3) h
theorem A0{ops:Array Oper}{rest:List Oper}{d:Option Tmp}{x y:Operand}{t ty:TypeId}{ps:String}{af:Array Edge}{a:Act}{w:World}{Q:Exit→Act→World→Prop}{g n:Nat}{k k':IntKind}{s s':Nat→Int}(hA:CV ty n)(hg:ArrAt w g k' ty n s')(hx:a.eval x=.pointer (some ⟨g,0,none⟩))(hy:a.eval y=.agg (WA k n s))(h:∀w2,ArrAt w2 g k ty n s→Only g w w2→wpList prog ops Q rest (a.put d undef) w2):wpList prog ops Q ({ dst:=d,op:=.store ty x y,type:=t,pos:=ps,after:=af,guard:=none }::rest) a w:=by
 obtain⟨_,_,_,h3⟩:=hA;exact H6 rfl ty x y rfl g _ hx hy ty _ hg (by rw[A5];exact h3) (by rw[A5,A5]) (Fr k n s) h
theorem AC{fn:Func}{p:Tmp}{ty:TypeId}(h:fn.results=#[.cell p ty]){tmps:Array Value}{w:World}{g n:Nat}{k:IntKind}{s:Nat→Int}(hA:CV ty n)(hg:ArrAt w g k ty n s)(hp:tmps.getD p undef=.pointer (some ⟨g,0,none⟩)):(results fn tmps).run prog w=.ok (.agg (WA k n s)) w:=by
 obtain⟨m,e,h1,h3⟩:=hA;exact results_cell_row h tmps w g ty _ (0,0) _ hp hg h1 rfl (by rw[A5];exact h3)
theorem BT{w:World}{p:Addr}{n:Int}(h:w.cell? p=some (.int .u32 n)):(Instr.loadAt 23 (.pointer (some p))).run prog w=.ok (.int .u32 n) w:=by
 simp[go_sem,h]
theorem B9{ops:Array Oper}{rest:List Oper}{d:Option Tmp}{x:Operand}{t ty:TypeId}{ps:String}{af:Array Edge}{a:Act}{w:World}{Q:Exit→Act→World→Prop}{g n i:Nat}{s:Nat→Int}(hg:ArrAt w g .u32 ty n s)(hx:a.eval x=.pointer (some ⟨g,i,none⟩))(hi:i<n)(h:wpList prog ops Q rest (a.put d (.int .u32 (s i))) w):wpList prog ops Q ({ dst:=d,op:=.load 23 x,type:=t,pos:=ps,after:=af,guard:=none }::rest) a w:=
 Ae rfl (Au rfl hx (BT (hg.cell i hi))) h
theorem PM{o:Oper}{a:Act}{w:World}{K:Act→World→Prop}{Q:Exit→Act→World→Prop}{x y:Operand}(ho:o.op=.store 23 x y){g n i:Nat}{ty:TypeId}{s:Nat→Int}{v:Int}(hx:a.eval x=.pointer (some ⟨g,i,none⟩))(hy:a.eval y=.int .u32 v)(hg:ArrAt w g .u32 ty n s)(hi:i<n)(h:∀w',ArrAt w' g .u32 ty n (upd s i v)→Only g w w'→K (a.put o.dst undef) w'):o.wp prog a w K Q:=by
 have hc:=hg.cell i hi;have hf:=hg.free i;have h':=h _ (hg.set i v hi) only_set;unfold Oper.wp execOp;simp only[ho,hx,hy];simp[go_sem,hc,hf];exact h'
theorem Bf{ops:Array Oper}{rest:List Oper}{d:Option Tmp}{x y:Operand}{t ty:TypeId}{ps:String}{af:Array Edge}{a:Act}{w:World}{Q:Exit→Act→World→Prop}{g n i:Nat}{s:Nat→Int}{v:Int}(hg:ArrAt w g .u32 ty n s)(hx:a.eval x=.pointer (some ⟨g,i,none⟩))(hy:a.eval y=.int .u32 v)(hi:i<n)(h:∀w2,ArrAt w2 g .u32 ty n (upd s i v)→Only g w w2→wpList prog ops Q rest (a.put d undef) w2):wpList prog ops Q ({ dst:=d,op:=.store 23 x y,type:=t,pos:=ps,after:=af,guard:=none }::rest) a w:=
 CF rfl (PM rfl hx hy hg hi h)
theorem Touch.trans{b:Nat}{u v w:World}(h:Touch (fun k=>k=b) u v)(k:Touch (fun k=>k=b) v w):Touch (fun k=>k=b) u w:=
 ⟨k.os.trans h.os,k.tape.trans h.tape,k.output.trans h.output,AcE h.size k.size,fun i hi hn=>(k.block i (Adb hi h.size) hn).trans (h.block i hi hn)⟩
theorem Cb{a:Act}{o:Oper}{w:World}{x:Operand}{t:TypeId}(ho:o.op=.slice t x none none none){v r:Value}(hx:a.eval x=v)(hr:(Instr.sliceAt t v none none none).run prog w=.ok r w):(execOp a.eval o).run prog w=.ok (.value r) w:=by
 unfold execOp;simp[ho,hx,hr]
theorem E9{a:Act}{o:Oper}{w:World}{x y:Operand}{t:TypeId}{n:Nat}(ho:o.op=.indexAddr t x y)(ht:Tryz.prog.underlying t=some (.array (Tryz.prog.arrayLen t) (Tryz.prog.elem t)))(hn:Tryz.prog.arrayLen t=n)(h1:∀w,(sizeOf (Tryz.prog.elem t)).run prog w=.ok 1 w){b i:Nat}(hx:a.eval x=.pointer (some ⟨b,0,none⟩))(hy:a.eval y=.int .i64 (i:Int))(hi:i<n):(execOp a.eval o).run prog w=.ok (.value (.pointer (some ⟨b,i,none⟩))) w:=by
 unfold execOp;simp only[ho,hx,hy,Sem.run_bind];rw[run_indexAt_array w t _ .i64 (i:Int) ht,if_pos ⟨by omega,by omega⟩,h1];simp only[Result.andThen_ok,Addr.add_lit,AcZ,Nat.mul_one,Ac9,Sem.run_pure]
theorem PO{a:Act}{o:Oper}{w:World}{x y:Operand}(ho:o.op=.binOp .add 23 x y 23){m n:Int}(hx:a.eval x=.int .u32 m)(hy:a.eval y=.int .u32 n):(execOp a.eval o).run prog w=.ok (.value (.int .u32 (Bc m n))) w:=BJ ho rfl hx hy (by simp[go_sem,Bc,IntKind.wrap_u32'])
theorem DF{a:Act}{o:Oper}{w:World}{x y:Operand}{t:TypeId}(ho:o.op=.slice t x (some y) none none){v u r:Value}(hx:a.eval x=v)(hy:a.eval y=u)(hr:(Instr.sliceAt t v (some u) none none).run prog w=.ok r w):(execOp a.eval o).run prog w=.ok (.value r) w:=by
 unfold execOp;simp[ho,hx,hy,hr]
theorem Aal{t:TypeId}{n:Nat}(ht:Tryz.prog.underlying t=some (.array (Tryz.prog.arrayLen t) (Tryz.prog.elem t)))(hn:Tryz.prog.arrayLen t=n)(h1:∀w,(sizeOf (Tryz.prog.elem t)).run prog w=.ok 1 w)(b l:Nat)(w:World)(hl:l<n):(Instr.sliceAt t (.pointer (some ⟨b,0,none⟩)) (some (.int .i64 (l:Int))) none none).run prog w=.ok (.slice (some ⟨b,l,none⟩) (n-l) (n-l)) w:=by
 rw[run_sliceAt_array_l (P:=prog) w t ⟨b,0,none⟩ ht .i64 (l:Int) (by omega) (by rw[hn];omega),h1,hn];simp only[Result.andThen_ok,slicedAt,AcZ,Nat.mul_one];rw[if_neg (by omega),Addr.add_lit,Ac9]
theorem AE{a:Act}{o:Oper}{w:World}{x:Operand}{s t:TypeId}(ho:o.op=.convert s t x){v r:Value}(hx:a.eval x=v)(hr:(convert s t v).run prog w=.ok r w):(execOp a.eval o).run prog w=.ok (.value r) w:=by
 unfold execOp;simp[ho,hx,hr]
theorem Aam{c:Int}(hc:W32 c)(w:World):(convert 23 3 (.int .u32 c)).run prog w=.ok (.int .i64 c) w:=by
 unfold W32 at hc;simp[go_sem,Cf (n:=c) (by omega) (by omega)]
theorem E4(w:World)(A B C D:Obj):((((w.alloc A).alloc B).alloc C).alloc D).heap[w.heap.size+1+1+1]?=some D:=by
 have h:=heap_alloc_new (((w.alloc A).alloc B).alloc C) D;have e:(((w.alloc A).alloc B).alloc C).heap.size=w.heap.size+1+1+1:=by simp
 rwa [e] at h
theorem Bg{a:Act}{o:Oper}{w:World}{x:Operand}{ty:TypeId}{g n:Nat}{k:IntKind}{s:Nat→Int}(ho:o.op=.load ty x)(hA:CV ty n)(hg:ArrAt w g k ty n s)(hx:a.eval x=.pointer (some ⟨g,0,none⟩)):(execOp a.eval o).run prog w=.ok (.value (.agg (WA k n s))) w:=by
 obtain⟨m,e,h1,h3⟩:=hA;unfold execOp;simp only[ho,hx];have:=run_loadVar_row (P:=prog) w g ty ty (WA k n s) (0,0) _ hg h1 rfl (by rw[A5];exact h3);simp[Instr.loadAt,Instr.sureAddr,this]
theorem Ms(x y:Int):An x y=An y x:=by unfold An;rw[Nat.xor_comm]
theorem Nn{x y:Int}(hx:0≤x∧x<256)(hy:0≤y∧y<256):0≤An x y∧An x y<256:=by
 have:=Nat.xor_lt_two_pow (x:=x.toNat) (y:=y.toNat) (n:=8) (by omega) (by omega);unfold An;omega
theorem D5{w:World}{p:Addr}{n:Int}(h:w.cell? p=some (.int .u8 n)):(Instr.loadAt 5 (.pointer (some p))).run prog w=.ok (.int .u8 n) w:=by
 simp[go_sem,h]
theorem Sy{o:Oper}{a:Act}{w:World}{K:Act→World→Prop}{Q:Exit→Act→World→Prop}{x y:Operand}(ho:o.op=.store 5 x y){g n i:Nat}{ty:TypeId}{s:Nat→Int}{v:Int}(hx:a.eval x=.pointer (some ⟨g,i,none⟩))(hy:a.eval y=.int .u8 v)(hg:ArrAt w g .u8 ty n s)(hi:i<n)(h:∀w',ArrAt w' g .u8 ty n (upd s i v)→Only g w w'→K (a.put o.dst undef) w'):o.wp prog a w K Q:=by
 have hc:=hg.cell i hi;have hf:=hg.free i;have h':=h _ (hg.set i v hi) only_set;unfold Oper.wp execOp;simp only[ho,hx,hy];simp[go_sem,hc,hf];exact h'
theorem EA{a:Act}{o:Oper}{w:World}{x y:Operand}(ho:o.op=.binOp .xor 5 x y 5){m n:Int}(hx:a.eval x=.int .u8 m)(hy:a.eval y=.int .u8 n)(hm:0≤m∧m<256)(hn:0≤n∧n<256):(execOp a.eval o).run prog w=.ok (.value (.int .u8 (An m n))) w:=BJ ho rfl hx hy (by simp[go_sem,u8_xor m n hm.1 hm.2 hn.1 hn.2,An])
theorem UU{wd:World}{G:List (Nat×Cont)}{B c:Nat}(hc:c≤wd.heap.size)(hB:wd.heap.size≤B)(hG:GLow c G)(w w':World)(h:Below c wd w)(ht:Touch (fun k=>B≤k∨k∈G.map (·.1)) w w'):Below c wd w':=
 h.trans ⟨ht.os,ht.tape,ht.output,ht.size,fun k hk=>ht.block k (by have:=h.size;omega) (fun e=>e.elim (fun e=>by omega) (fun e=>by have:=hG.at k e;omega))⟩
theorem UV{o:Oper}{a:Act}{w:World}{K:Act→World→Prop}{Q:Exit→Act→World→Prop}{x y:Operand}(ho:o.op=.store 5 x y){b i n:Nat}{t:TypeId}{s:Nat→Int}{v:Int}(hx:a.eval x=.pointer (some ⟨b,i,none⟩))(hy:a.eval y=.int .u8 v)(hr:RowAt w b .u8 t n s)(hi:i<n)(h:∀w',RowAt w' b .u8 t n (upd s i v)→Only b w w'→K (a.put o.dst undef) w'):o.wp prog a w K Q:=by
 have hc:=hr.cell i hi;have hf:=hr.free i hi;have h':=h _ (hr.set i v) only_set;unfold Oper.wp execOp;simp only[ho,hx,hy];simp[go_sem,hc,hf];exact h'
theorem EB(w:World):(sizeOf (Tryz.prog.elem 81)).run prog w=.ok 1 w:=by kernel_rfl
theorem On{w:World}{b n:Nat}{t:TypeId}{s:Nat→Int}{x:Nat}(h:RowAt w b .u8 t n s)(hx:x<n):w.cell? ⟨b,0+x,none⟩=some (.int .u8 (s x)):=by rw[Ac9];exact h.cell x hx
theorem Cm{a:Act}{o:Oper}{w:World}{x y:Operand}{op:BinOp}{t u:TypeId}(ho:o.op=.binOp op t x y u){X Y V:Value}(hx:a.eval x=X)(hy:a.eval y=Y)(hg:(eqGuard op t x y X Y).run prog w=.ok () w)(hr:(binOp op t X Y).run prog w=.ok V w):(execOp a.eval o).run prog w=.ok (.value V) w:=BJ ho hg hx hy hr
theorem Dt{a:Act}{o:Oper}{w:World}{x y:Operand}{t:TypeId}(ho:o.op=.slice t x none (some y) none){v u r:Value}(hx:a.eval x=v)(hy:a.eval y=u)(hr:(Instr.sliceAt t v none (some u) none).run prog w=.ok r w):(execOp a.eval o).run prog w=.ok (.value r) w:=by
 unfold execOp;simp[ho,hx,hy,hr]
theorem Bd{n:Nat}{s:Nat→Int}{x:Nat}{v:Int}(h:∀i,i<n→W32 (s i))(hv:W32 v):∀i,i<n→W32 (upd s x v i):=fun i hi=>by
 unfold upd;split
 ·exact hv
 ·exact h i hi
theorem FH{x y:Int}(hx:W32 x)(hy:W32 y):-9223372036854775808≤x+y:=by unfold W32 at *;omega
theorem DH{x y:Int}(hx:W32 x)(hy:W32 y):x+y<9223372036854775808:=by unfold W32 at *;omega
theorem FI(s:Nat→Int)(i:Nat)(x y:Int):upd (upd s i x) i y=upd s i y:=by
 funext j
 unfold upd
 split<;>rfl
theorem Cj{x y:Int}(hx:W32 x)(hy:W32 y):bits .xor .u32 x y=An x y:=u32_xor x y hx.1 hx.2 hy.1 hy.2
theorem EP(a b:Int)(k:Nat)(q:Int)(hq:q=((2 ^ k:Nat):Int))(h0:0≤a)(h1:a<q)(h2:a<4294967296)(k0:0≤b)(k1:b*q<4294967296):bits .or .u32 a (b*q)=a+b*q:=by
 obtain⟨m,rfl⟩:=AcQ h0;obtain⟨n,rfl⟩:=AcQ k0;subst hq;have e:(n:Int)*((2 ^ k:Nat):Int)=((2 ^ k*n:Nat):Int):=by rw[AcL];rfl
 rw[e] at k1 ⊢;have hm:m<2 ^ k:=Int.ofNat_lt.1 h1;have hn:2 ^ k*n<4294967296:=Int.ofNat_lt.1 k1;have h3:=Nat.two_pow_add_eq_or_of_lt hm n;have hl:m<4294967296:=by omega
 rw[u32_or_nat m _ hl hn,Nat.or_comm,←h3];omega
theorem Ix(w:World)(A B C D:Obj):((((w.alloc A).alloc B).alloc C).alloc D).heap[w.heap.size]?=some A:=by
 have h:=AA w A B C;have hl:w.heap.size<(((w.alloc A).alloc B).alloc C).heap.size:=Aa h;rw[←h];exact heap_alloc_old _ _ hl
theorem Iy(w:World)(A B C D:Obj):((((w.alloc A).alloc B).alloc C).alloc D).heap[w.heap.size+1]?=some B:=by
 have h:=AG w A B C;have hl:w.heap.size+1<(((w.alloc A).alloc B).alloc C).heap.size:=Aa h;rw[←h];exact heap_alloc_old _ _ hl
theorem Iz(w:World)(A B C D:Obj):((((w.alloc A).alloc B).alloc C).alloc D).heap[w.heap.size+1+1]?=some C:=by
 have h:=AP w A B C;have hl:w.heap.size+1+1<(((w.alloc A).alloc B).alloc C).heap.size:=Aa h;rw[←h];exact heap_alloc_old _ _ hl
def A9(k:IntKind)(n:Nat)(s:Nat→Int):List Value:=(AcA n).map fun i=>.int k (s i)
theorem A2(k:IntKind)(n:Nat)(s:Nat→Int):(A9 k n s).length=n:=by simp[A9]
theorem B2{k:IntKind}{n:Nat}{s:Nat→Int}{j:Nat}{u:Value}(h:(A9 k n s)[j]?=some u):j<n∧u=.int k (s j):=by
 have hj:j<n:=by have:=(List.getElem?_eq_some_iff.1 h).1;simpa [A9] using this
 refine⟨hj,?_⟩;simp[A9,hj] at h;exact h.symm
theorem Bm(k:IntKind)(n:Nat)(s:Nat→Int){j:Nat}(h:j<n):(A9 k n s)[j]?=some (.int k (s j)):=by simp[A9,h]
theorem EQ{k:IntKind}{n:Nat}{s:Nat→Int}:∀u∈A9 k n s,u.oneCell'=true:=fun u hu=>by
 obtain⟨i,_,rfl⟩:=List.mem_map.1 hu;rfl
def cat(n:Nat)(s r:Nat→Int)(i:Nat):Int:=if i<n then s i else r (i-n)
theorem KA(k:IntKind)(n m:Nat)(s r:Nat→Int):A9 k n s++A9 k m r=A9 k (n+m) (cat n s r):=by
 apply List.ext_getElem?;intro i
 by_cases h:i<n
 ·rw[List.getElem?_append_left (by rw[A2];exact h),Bm k n s h,Bm k _ _ (by omega)];simp[cat,h]
 ·rw[List.getElem?_append_right (by rw[A2];omega),A2]
  by_cases h2:i<n+m
  ·rw[Bm k m r (by omega),Bm k _ _ h2];simp[cat,h]
  ·rw[AcV (by rw[A2];omega),AcV (by rw[A2];omega)]
theorem CW{w:World}{B:Nat}{e:TypeId}{v:Value}{n:Nat}{k:IntKind}{s:Nat→Int}(h:w.ownsRow B e 1 v n (A9 k n s))(hn:0<n):∃b cp,v=.slice (some ⟨b,0,none⟩) n cp∧B≤b∧n≤cp∧RowAt w b k e n s:=by
 rcases h.2 with ⟨_,h0⟩ | ⟨g,cap,cur,rfl,hb,hg,hc,_,hs,ht⟩
 ·omega
 ·refine⟨g,cap,rfl,hb,hc,_,hg,cur,_,rfl,by omega,fun i _=>by simp,fun i hi=>?_⟩
  have h1:=Bm k n s hi;rw[←ht,Adj,if_pos (by omega)] at h1
  simpa using h1
theorem Bv:(Tryz.prog.info? 3).map (fun i=>(i.zero,i.size,i.bytes))=some (some (.int .i64 0),1,8):=by kernel_rfl
theorem infoByte:(Tryz.prog.info? 5).map (fun i=>(i.zero,i.size,i.bytes))=some (some (.int .u8 0),1,1):=by kernel_rfl
theorem Below.grow{B:Nat}{w w':World}{row:Option Nat}(hg:w.grownBy w' row)(hB:B≤w.heap.size)(hr:∀k,row=some k→B≤k):Below B w w':=
 ⟨hg.os,hg.tape,hg.output,hg.size,fun k hk=>hg.block k (by omega) (fun e=>by have:=hr k e.symm;omega)⟩
theorem I0{w:World}{B:Nat}{e:TypeId}{v:Value}{n:Nat}{xs:List Value}(h:w.ownsRow B e 1 v n xs):∀k,v.ownBlock=some k→B≤k:=fun k hk=>by
 rcases h.2 with ⟨rfl,_⟩ | ⟨g,cap,cur,rfl,hb,_⟩
 ·cases hk
 ·simp[Value.ownBlock] at hk;omega
theorem Dd{ops:Array Oper}{rest:List Oper}{o:Oper}{a:Act}{w:World}{Q:Exit→Act→World→Prop}(hgd:o.guard=none)(s x:Operand)(t e:TypeId)(k:IntKind)(by':Nat)(ht:Tryz.prog.underlying t=some (.slice e))(hi:(Tryz.prog.info? e).map (fun i=>(i.zero,i.size,i.bytes))=some (some (.int k 0),1,by'))(hby:by'≤8)(ho:o.op=.call { callee:=.builtin .append,args:=#[s,x],argTypes:=#[t,t] }){B n m c:Nat}{f r:Nat→Int}{v:Value}{b off:Nat}(hs:a.eval s=v)(hD:w.ownsRow B e 1 v n (A9 k n f))(hx:a.eval x=.slice (some ⟨b,off,none⟩) m c)(hc:∀j,j<m→w.cell? ⟨b,off+j,none⟩=some (.int k (r j)))(hl:n+m<1000000)(hB:B≤w.heap.size)(h:∀v' w',w'.ownsRow B e 1 v' (n+m) (A9 k (n+m) (cat n f r))→Below B w w'→wpList prog ops Q rest (a.put o.dst v') w'):wpList prog ops Q (o::rest) a w:=by
 obtain⟨i0,hi,hz0,hz1,hz2⟩:=info_parts hi;refine wpList_append_own w hgd s x t ho B e i0 (.int k 0) 1 by' ht hi hz0 hz1 hz2 rfl (by decide) _ n _ hs hD ⟨b,off,none⟩ m c (A9 k m r) hx (by rw[A2];omega) ?_ EQ ?_ ?_ hB ?_
 ·intro j u hj
  obtain⟨hj2,rfl⟩:=B2 hj;rw[Addr.add_lit];exact hc j hj2
 ·unfold maxLen;omega
 ·have:(n+m)*by'≤(n+m)*8:=Nat.mul_le_mul_left _ hby
  omega
 ·intro v' w1 hown hgrow _
  rw[KA] at hown;exact h v' w1 hown (Below.grow hgrow hB (I0 hD))
theorem I1{ops:Array Oper}{rest:List Oper}{o:Oper}{a:Act}{w:World}{Q:Exit→Act→World→Prop}(hgd:o.guard=none)(s x:Operand)(t e:TypeId)(k:IntKind)(by':Nat)(ht:Tryz.prog.underlying t=some (.slice e))(hi:(Tryz.prog.info? e).map (fun i=>(i.zero,i.size,i.bytes))=some (some (.int k 0),1,by'))(hby:by'≤8)(ho:o.op=.call { callee:=.builtin .append,args:=#[s,x],argTypes:=#[t,t] }){n m c cap:Nat}{f r:Nat→Int}{b' b off:Nat}(hs:a.eval s=.slice (some ⟨b',0,none⟩) n cap)(hf:∀j,j<n→w.cell? ⟨b',j,none⟩=some (.int k (f j)))(hx:a.eval x=.slice (some ⟨b,off,none⟩) m c)(hc:∀j,j<m→w.cell? ⟨b,off+j,none⟩=some (.int k (r j)))(hl:n+m<1000000)(hcap:cap<n+m)(h:∀v' w',w'.ownsRow w.heap.size e 1 v' (n+m) (A9 k (n+m) (cat n f r))→Below w.heap.size w w'→wpList prog ops Q rest (a.put o.dst v') w'):wpList prog ops Q (o::rest) a w:=by
 obtain⟨i0,hi,hz0,hz1,hz2⟩:=info_parts hi;refine wpList_append_grows w hgd s x t ho e i0 (.int k 0) 1 by' ht hi hz0 hz1 hz2 rfl (by decide) (some ⟨b',0,none⟩) n cap (A9 k n f) hs (fun h=>by cases h) (by rw[A2];omega) ?_ ⟨b,off,none⟩ m c (A9 k m r) hx (by rw[A2];omega) ?_ EQ hcap ?_ ?_ ?_
 ·intro bb hb j u hj
  obtain⟨hj2,rfl⟩:=B2 hj;simp only[Option.some.injEq] at hb;subst hb;rw[Addr.add_lit,Ac9];exact hf j hj2
 ·intro j u hj
  obtain⟨hj2,rfl⟩:=B2 hj;rw[Addr.add_lit];exact hc j hj2
 ·unfold maxLen;omega
 ·have:(n+m)*by'≤(n+m)*8:=Nat.mul_le_mul_left _ hby
  omega
 ·intro v' w1 hown hgrow
  rw[KA] at hown;exact h v' w1 hown (Below.grow hgrow (Ac4 _) (fun k hk=>by cases hk))
theorem Bw{k:IntKind}{n:Nat}{s t:Nat→Int}(h:∀i,i<n→s i=t i):A9 k n s=A9 k n t:=by
 unfold A9;exact List.map_congr_left (fun i hi=>by rw[h i (List.mem_range.1 hi)])
theorem Bo{w w':World}{B:Nat}{e:TypeId}{v:Value}{n:Nat}{xs:List Value}(h:w.ownsRow B e 1 v n xs)(hb:Below w.heap.size w w'):w'.ownsRow B e 1 v n xs:=by
 refine⟨h.1,?_⟩
 rcases h.2 with hn | ⟨g,cap,cur,hv,hB,hg,rest⟩
 ·exact .inl hn
 ·exact .inr ⟨g,cap,cur,hv,hB,(hb.block g (Aa hg)).trans hg,rest⟩
theorem DY(n:Nat)(f:Nat→Int):∀i,i<n+1→cat n f (fun _=>f n) i=f i:=fun i hi=>by
 unfold cat
 split
 ·rfl
 ·rw[show i=n by omega]
def over(s:Nat→Int)(off m:Nat)(r:Nat→Int)(i:Nat):Int:=if off≤i∧i<off+m then r (i-off) else s i
theorem UW{w:World}{g off dL dC b f sL sC n m:Nat}{t:TypeId}{s r:Nat→Int}(ty:TypeId)(hg:ArrAt w g .u8 t n s)(hm:m=Nat.min sL dL)(hfit:off+m≤n)(hr:∀j,j<m→w.cell? ⟨b,f+j,none⟩=some (.int .u8 (r j))):∃w',(Builtin.copy_ #[81,81] ty #[.slice (some ⟨g,off,none⟩) dL dC,.slice (some ⟨b,f,none⟩) sL sC]).run prog w=.ok (goInt m) w'∧ArrAt w' g .u8 t n (over s off m r)∧Only g w w':=by
 have h0:=run_copy_cells (P:=prog) w 81 81 ty 5 g off dL dC ⟨b,f,none⟩ sL sC (A9 .u8 m r) underlying81 (by kernel_rfl) (by rw[A2];exact hm)
  (fun j v hj=>by
   obtain⟨hj2,rfl⟩:=B2 hj;rw[Addr.add_lit];exact hr j hj2)
  (fun j hj=>by rw[A2] at hj;rw[hg.cell _ (by omega)];rfl) (fun j _=>hg.free _) EQ
 rw[A2] at h0;obtain⟨C',h1,h2,h3,h4,h5⟩:=BC (A9 .u8 m r) off w _ hg (by rw[A2,A5];exact hfit);rw[A2] at h3 h4;rw[A5] at h2
 have e:C'=WA .u8 n (over s off m r):=H7 h2 (fun i hi=>by
  unfold over
  by_cases h:off≤i∧i<off+m
  ·rw[if_pos h]
   have:=h3 (i-off) (by omega);rw[show off+(i-off)=i by omega] at this;rw[this,Bm .u8 m r (by omega)]
  ·rw[if_neg h,h4 i (by omega),Er .u8 n s i hi])
 exact⟨_,h0,by unfold ArrAt;rw[h1,e],h5⟩
theorem ER{o:Oper}{a:Act}{w:World}{K:Act→World→Prop}{Q:Exit→Act→World→Prop}{d s':Operand}(ho:o.op=.call { callee:=.builtin .copy,args:=#[d,s'],argTypes:=#[81,81] }){g off dL dC b f sL sC n m:Nat}{t:TypeId}{s r:Nat→Int}(hd:a.eval d=.slice (some ⟨g,off,none⟩) dL dC)(hs:a.eval s'=.slice (some ⟨b,f,none⟩) sL sC)(hg:ArrAt w g .u8 t n s)(hm:m=Nat.min sL dL)(hfit:off+m≤n)(hr:∀j,j<m→w.cell? ⟨b,f+j,none⟩=some (.int .u8 (r j)))(h:∀w',ArrAt w' g .u8 t n (over s off m r)→Only g w w'→K (a.put o.dst (goInt m)) w'):o.wp prog a w K Q:=by
 obtain⟨w',hrun,h1,h2⟩:=UW (dC:=dC) (sC:=sC) o.type hg hm hfit hr;unfold Oper.wp;simp[execOp,ho,resolve,invoke,builtin,hd,hs,hrun,Result.andThen];exact h w' h1 h2
theorem KB(s:Nat→Int)(n d:Nat)(w:World):∀(is:List Nat),(∀i∈is,i<n)→(Op.eqItems (d+1) 5 1 (WA .u8 n s) (WA .u8 n s) is).run prog w=.ok true w
 | [],_=>by simp[Op.eqItems]
 | i::is,h=>by
  have hi:i<n:=h i (by simp);have ih:=KB s n d w is (fun j hj=>h j (by simp[hj]))
  have e1:(part 5 (WA .u8 n s) (i*1)).run prog w=.ok (.int .u8 (s i)) w:=by
   simp[part,Er,hi,go_sem]
  simp only[Op.eqItems,Sem.run_bind,e1,Result.andThen_ok,run_equalIn_int w d 5 .u8 .u8 _ _ underlying5]
  simpa using ih
theorem KC:Tryz.prog.cellsOf 5=1:=by kernel_rfl
theorem UX:(Tryz.prog.info? 5).isSome=true:=by kernel_rfl
theorem UY{t:TypeId}{n:Nat}(ht:Tryz.prog.underlying t=some (.array n 5))(s:Nat→Int)(d:Nat)(w:World):(Op.equalIn (d+1+1) t (.agg (WA .u8 n s)) (.agg (WA .u8 n s))).run prog w=.ok true w:=by
 obtain⟨i,hi⟩:=Option.isSome_iff_exists.1 UX;rw[run_equalIn_array w (d+1) (WA .u8 n s) (WA .u8 n s) ht hi,KC];exact KB s n d w _ (fun i hi=>List.mem_range.1 hi)
theorem Al{a:Act}{o:Oper}{w:World}{x:Operand}{ty:TypeId}{b f n:Nat}{k:IntKind}{s:Nat→Int}(ho:o.op=.load ty x)(hA:CV ty n)(hx:a.eval x=.pointer (some ⟨b,f,none⟩))(hr:w.rangeAt b f (A9 k n s)):(execOp a.eval o).run prog w=.ok (.value (.agg (WA k n s))) w:=by
 obtain⟨m,e,h1,h3⟩:=hA;have h:=run_loadAt_mid (P:=prog) w b f ty (A9 k n s) _ hr h1 rfl (by rw[A2];exact h3);exact Au ho hx h
theorem AZ{a:Act}{o:Oper}{w:World}{x:Operand}{p:Addr}(ho:o.op=.nilCheck x)(hx:a.eval x=.pointer (some p)):(execOp a.eval o).run prog w=.ok (.value (.pointer (some p))) w:=by
 unfold execOp;simp only[ho,hx,Sem.run_pure]
def txt(s:ByteArray)(j:Nat):Int:=((s.data.toList.getD j 0).toNat:Int)
theorem B5(s:ByteArray)(j:Nat):0≤txt s j∧txt s j<256:=by
 unfold txt;have:=(s.data.toList.getD j 0).toNat_lt;omega
def D1(n:Nat)(f:Nat→Int):List UInt8:=(AcA n).map fun j=>UInt8.ofNat (f j).toNat
def mkS(n:Nat)(f:Nat→Int):ByteArray:=⟨(D1 n f).toArray⟩
theorem At(n:Nat)(f:Nat→Int):(mkS n f).size=n:=by
 show (D1 n f).toArray.size=n;simp[D1]
theorem FJ(n:Nat)(f:Nat→Int):(D1 n f).length=n:=by simp[D1]
theorem I2{n:Nat}{f:Nat→Int}{j:Nat}(hf:0≤f j∧f j<256)(h:j<n):txt (mkS n f) j=f j:=by
 unfold txt mkS D1;simp[h];omega
theorem GO{n:Nat}{f g:Nat→Int}(h:∀j,j<n→f j=g j):mkS n f=mkS n g:=by
 unfold mkS D1;congr 2;exact List.map_congr_left (fun j hj=>by rw[h j (List.mem_range.1 hj)])
theorem DZ(s:ByteArray):mkS s.size (txt s)=s:=by
 unfold mkS D1;obtain⟨d⟩:=s;congr 1;apply Array.ext
 ·simp
  rfl
 ·intro i h1 h2
  simp[txt,h2]
theorem PP{n:Nat}{f:Nat→Int}(hf:∀j,j<n→0≤f j∧f j<256):A9 .u8 n f=Lib.byteCells (D1 n f):=by
 unfold A9 Lib.byteCells D1;rw[List.map_map]
 exact List.map_congr_left (fun j hj=>by
  have:=hf j (List.mem_range.1 hj);simp;omega)
theorem Cz{s:ByteArray}{j:Nat}(h:j<s.size):(((s[j]'h).toNat:Nat):Int)=txt s j:=by
 unfold txt;have:j<s.data.toList.length:=by simpa using h
 rw[Ade,AcP this];rfl
theorem B6(s:ByteArray)(a j:Nat)(h:a+j<s.size):txt (s.extract a s.size) j=txt s (a+j):=by
 have h1:j<(s.extract a s.size).size:=by rw[ByteArray.size_extract];omega
 rw[←Cz h1,←Cz h];congr 2;exact ByteArray.getElem_extract h1
theorem Cc(s:ByteArray)(a:Nat):(s.extract a s.size).size=s.size-a:=by
 simp
theorem Gx{a:Act}{o:Oper}{w:World}{x y:Operand}(ho:o.op=.index 9 x y){s:ByteArray}{j:Nat}(hx:a.eval x=.string s)(hy:a.eval y=.int .i64 (j:Int))(hj:j<s.size):(execOp a.eval o).run prog w=.ok (.value (.int .u8 (txt s j))) w:=by
 unfold execOp;simp only[ho,hx,hy,Sem.run_bind];rw[run_index_string w 9 s .i64 (j:Int) underlying9,dif_pos ⟨by omega,by omega⟩];simp only[Result.andThen_ok,Sem.run_pure,AcZ];rw[Cz hj]
theorem KD(s:ByteArray)(w:World):∃cp v,(convert 9 81 (.string s)).run prog w=.ok (.slice (some ⟨w.heap.size,0,none⟩) s.size cp) v∧RowAt v w.heap.size .u8 5 s.size (txt s)∧Below w.heap.size w v:=by
 refine⟨_,_,run_bytes_of_string w 9 81 5 s underlying9 underlying81 underlying5,⟨_,heap_alloc_new w.drew _,_,_,rfl,?_,?_,?_⟩,(Below.refl _ w).drew.alloc (Ac4 _) _⟩
 ·simp only[bytesRow,Array.size_append,Array.size_map]
  have:s.data.size=s.size:=rfl;omega
 ·intro i hi
  have:s.data.size=s.size:=rfl;simp only[bytesRow,Array.size_append,Array.size_map];omega
 ·intro i hi
  have hi2:i<s.data.size:=hi;unfold bytesRow;rw[Adg (by simpa using hi2)];simp[txt];exact⟨_,AcN hi2,by rw[AcN hi2];rfl⟩
theorem AB{ty:TypeId}(a b cp:Nat)(w:World)(n:Nat)(f:Nat→Int)(hR:RowAt w b .u8 ty n f)(hf:∀j,j<n→0≤f j∧f j<256)(ha:a=n):(convert 81 9 (.slice (some ⟨b,0,none⟩) a cp)).run prog w=.ok (.string (mkS n f)) w:=by
 subst ha
 have h:=run_convert_bytes_back (P:=prog) w 81 9 5 ⟨b,0,none⟩ cp (D1 a f) underlying81 underlying5 underlying9 (fun j hj=>by
  rw[FJ] at hj;rw[Addr.add_lit,Ac9,hR.cell j hj];have:=hf j hj;simp[D1];omega)
 rw[FJ] at h;exact h
theorem GP{a:Act}{o:Oper}{w:World}{x:Operand}(ho:o.op=.call { callee:=.builtin .len,args:=#[x],argTypes:=#[9] }){s:ByteArray}(hx:a.eval x=.string s):(execOp a.eval o).run prog w=.ok (.value (.int .i64 (s.size:Int))) w:=by
 have hr:=run_len_string (P:=prog) w 9 o.type s underlying9;simp[execOp,ho,resolve,invoke,builtin,hx,hr,goInt]
theorem Jm{a:Act}{o:Oper}{w:World}{x y:Operand}(ho:o.op=.binOp .neq 9 x y 9){s t:ByteArray}(hx:a.eval x=.string s)(hy:a.eval y=.string t)(e:s=t):(execOp a.eval o).run prog w=.ok (.value (.bool false)) w:=by
 subst e;exact Cm ho hx hy rfl (by simp[go_sem])
theorem AV{a:Act}{o:Oper}{w:World}{x y:Operand}(ho:o.op=.binOp .add 9 x y 9){s t:ByteArray}(hx:a.eval x=.string s)(hy:a.eval y=.string t)(hl:s.size+t.size≤9223372036854775807):(execOp a.eval o).run prog w=.ok (.value (.string (s++t))) w:=by
 exact Cm ho hx hy rfl (by simp[go_sem,hl])
theorem Sz(s:ByteArray)(n:Nat)(w:World)(h:n≤s.size):(Instr.sliceAt 9 (.string s) none (some (.int .i64 (n:Int))) none).run prog w=.ok (.string (s.extract 0 n)) w:=by
 have h2:(n:Int)≤(s.size:Int):=by omega
 simp[go_sem,h2]
theorem Ym(s:ByteArray)(n:Nat)(w:World)(h:n≤s.size):(Instr.sliceAt 9 (.string s) (some (.int .i64 (n:Int))) none none).run prog w=.ok (.string (s.extract n s.size)) w:=by
 have h2:(n:Int)≤(s.size:Int):=by omega
 simp[go_sem,h2]
theorem Mt(s:ByteArray)(n:Nat)(h:n≤s.size):(s.extract 0 n).size=n:=by
 rw[ByteArray.size_extract];omega
theorem S0(s:ByteArray):(s.data.toList.map fun x=>Value.int .u8 (x.toNat:Int))=A9 .u8 s.size (txt s):=by
 have hl:s.data.toList.length=s.size:=by simp
 refine List.ext_getElem? (fun i=>?_)
 by_cases h:i<s.size
 ·have hi:i<s.data.toList.length:=by omega
  rw[Bm .u8 _ _ h,Adi,AcP hi,←Cz h];rfl
 ·rw[AcV (by rw[List.length_map];omega),AcV (by rw[A2];omega)]
theorem Jn{o:Oper}{a:Act}{w:World}{K:Act→World→Prop}{Q:Exit→Act→World→Prop}{d s':Operand}(ho:o.op=.call { callee:=.builtin .copy,args:=#[d,s'],argTypes:=#[81,9] }){g off dL dC n m:Nat}{t:TypeId}{s r:Nat→Int}(hd:a.eval d=.slice (some ⟨g,off,none⟩) dL dC)(hs:a.eval s'=.string (mkS m r))(hg:ArrAt w g .u8 t n s)(hr:∀j,j<m→0≤r j∧r j<256)(hm:m≤dL)(hfit:off+m≤n)(h:∀w',ArrAt w' g .u8 t n (over s off m r)→Only g w w'→K (a.put o.dst (goInt m)) w'):o.wp prog a w K Q:=by
 have hz:∀w,(Go.sizeOf 5).run prog w=.ok 1 w:=fun w=>by kernel_rfl
 have h0:=run_copy_string (P:=prog) w 81 9 o.type 5 g off dL dC (mkS m r) underlying81 hz (by rw[At];exact hm) (fun j hj=>by rw[At] at hj;rw[hg.cell _ (by omega)];rfl) (fun j _=>hg.free _);rw[S0,At] at h0;obtain⟨C',h1,h2,h3,h4,h5⟩:=BC (A9 .u8 m (txt (mkS m r))) off w _ hg (by rw[A2,A5];exact hfit);rw[A2] at h3 h4;rw[A5] at h2
 have e:C'=WA .u8 n (over s off m r):=H7 h2 (fun i hi=>by
  unfold over
  by_cases h:off≤i∧i<off+m
  ·rw[if_pos h]
   have:=h3 (i-off) (by omega);rw[show off+(i-off)=i by omega] at this;rw[this,Bm .u8 m _ (by omega),I2 (hr _ (by omega)) (by omega)]
  ·rw[if_neg h,h4 i (by omega),Er .u8 n s i hi])
 unfold Oper.wp;simp[execOp,ho,resolve,invoke,builtin,hd,hs,h0,Result.andThen];exact h _ (by unfold ArrAt;rw[h1,e]) h5
theorem FK{a:Act}{o:Oper}{w:World}{x y:Operand}(ho:o.op=.binOp .neq 9 x y 9){s t:ByteArray}(hx:a.eval x=.string s)(hy:a.eval y=.string t)(e:s≠t):(execOp a.eval o).run prog w=.ok (.value (.bool true)) w:=Cm ho hx hy rfl (by simp[go_sem];intro h;rw[ByteArray.toList_eq,ByteArray.toList_eq] at h;exact e (ByteArray.ext (Array.ext' h)))
theorem C4{a:Act}{o:Oper}{w:World}{x y z:Operand}{t:TypeId}(ho:o.op=.slice t x (some y) (some z) none){v u u' r:Value}(hx:a.eval x=v)(hy:a.eval y=u)(hz:a.eval z=u')(hr:(Instr.sliceAt t v (some u) (some u') none).run prog w=.ok r w):(execOp a.eval o).run prog w=.ok (.value r) w:=by
 unfold execOp;simp[ho,hx,hy,hz,hr]
theorem BQ{o:Oper}{a:Act}{w:World}{K:Act→World→Prop}{Q:Exit→Act→World→Prop}{x y:Operand}{ty:TypeId}{g n:Nat}{k k':IntKind}{s s':Nat→Int}(ho:o.op=.store ty x y)(hA:CV ty n)(hx:a.eval x=.pointer (some ⟨g,0,none⟩))(hy:a.eval y=.agg (WA k n s))(hg:ArrAt w g k' ty n s')(h:∀w2,ArrAt w2 g k ty n s→Only g w w2→K (a.put o.dst undef) w2):o.wp prog a w K Q:=by
 obtain⟨_,_,_,h3⟩:=hA;have hrun:=run_storeVar_row (P:=prog) w g ty ty (WA k' n s') (WA k n s) hg (by rw[A5];exact h3) (by rw[A5,A5]) (Fr k n s);unfold Oper.wp execOp;simp only[ho,hx,hy,Instr.storeAt,Instr.sureAddr,Sem.run_bind,Sem.run_pure,Result.andThen_ok,hrun];exact h _ (setRow_heap w g (WA k' n s') (WA k n s) ty (0,0) hg) (Cd w g _)
theorem Rk(k:IntKind)(n:Nat):madeCells #[Value.int k 0] n=WA k n (fun _=>0):=by
 refine H7 (size_madeCells _ _) (fun i hi=>?_);simp[madeCells,hi,Nat.mod_one]
theorem Co{fn:Func}{p q:Tmp}(h:fn.results=#[.tmp p,.tmp q]){tmps:Array Value}{w:World}{u v:Value}(hp:tmps.getD p undef=u)(hq:tmps.getD q undef=v):(results fn tmps).run prog w=.ok (.tuple #[u,v]) w:=by
 have hp':tmps[p]?.getD undef=u:=by simpa using hp
 have hq':tmps[q]?.getD undef=v:=by simpa using hq
 simp[results,h,hp',hq']
theorem Mu(s:ByteArray)(m:Nat)(h:m≤s.size):List.take m (s.data.toList.map fun x=>Value.int .u8 (x.toNat:Int))=A9 .u8 m (txt s):=by
 apply List.ext_getElem?;intro i
 by_cases hi:i<m
 ·have h2:i<s.data.toList.length:=by have:s.data.size=s.size:=rfl;simp;omega
  rw[Adj,if_pos hi,Bm .u8 m (txt s) hi,Adi,AcP h2];unfold txt;rw[Ade,AcP h2];rfl
 ·rw[AcV (by simp;omega),AcV (by rw[A2];omega)]
end Go.Proofs.YthghcjepdhkfdaaGreatDoor
namespace Go.Proofs.YthghcjepdhkfdaaGreatDoor
open Go.ChangeShapes Go.WideShapes Go.ChangeAt Go.WideMaps Go.WideElems Go.RowKit Go.Proofs
open Tryz
theorem Np:laidOutB prog=true:=by kernel_rfl
theorem Af:CV 22 32:=⟨_,_,underlying22,by kernel_rfl⟩
theorem Ck:CV 54 16:=⟨_,_,underlying54,by kernel_rfl⟩
theorem Mv(b:Nat)(w:World):(Instr.sliceAt 22 (.pointer (some ⟨b,0,none⟩)) none none none).run prog w=.ok (.slice (some ⟨b,0,none⟩) 32 32) w:=by simp[go_sem]
theorem H8(w:World):(zeroValue 22).run prog w=.ok (.agg (WA .u8 32 fun _=>0)) w:=by kernel_rfl
theorem Hq:Tryz.prog.arrayLen 183=64:=by kernel_rfl
theorem FL(w:World):(sizeOf (Tryz.prog.elem 183)).run prog w=.ok 1 w:=by kernel_rfl
end Go.Proofs.YthghcjepdhkfdaaGreatDoor
namespace Go.Proofs.YthghcjepdhkfdaaGreatDoor
open Go.RowKit Go.Proofs
def CA(x:Int)(n:Nat):Int:=((x.toNat*2 ^ n%4294967296 ||| x.toNat/2 ^ (32-n):Nat):Int)
theorem Fs{x:Int}(n:Nat)(hx:W32 x):W32 (CA x n):=by
 unfold W32 at *;have h1:x.toNat/2 ^ (32-n)<2 ^ 32:=Nat.lt_of_le_of_lt (Nat.div_le_self _ _) (by omega);have:=Nat.or_lt_two_pow (x:=x.toNat*2 ^ n%4294967296) (y:=x.toNat/2 ^ (32-n)) (n:=32) (by omega) h1;unfold CA;omega
structure Q4w where
 a:Int
 b:Int
 c:Int
 d:Int
def UZ(r1 r2:Nat)(q:Q4w):Q4w:=
 ⟨Bc q.a q.b,CA (An q.b (Bc q.c (CA (An q.d (Bc q.a q.b)) r1))) r2,Bc q.c (CA (An q.d (Bc q.a q.b)) r1),CA (An q.d (Bc q.a q.b)) r1⟩
def Fx(q:Q4w):Q4w:=UZ 8 7 (UZ 16 12 q)
structure Q4w.ok (q:Q4w):Prop where
 a:W32 q.a
 b:W32 q.b
 c:W32 q.c
 d:W32 q.d
theorem Rl{r1 r2:Nat}{q:Q4w}(h:q.ok):(UZ r1 r2 q).ok:=by
 have h1:=Fs r1 (A8 h.d (BF q.a q.b));exact⟨BF _ _,Fs _ (A8 h.b (BF _ _)),BF _ _,h1⟩
theorem Va{q:Q4w}(h:q.ok):(Fx q).ok:=Rl (Rl h)
def Dq(s:Nat→Int)(a b c d:Nat):Nat→Int:=
 upd (upd (upd (upd s a (Fx ⟨s a,s b,s c,s d⟩).a) b (Fx ⟨s a,s b,s c,s d⟩).b) c (Fx ⟨s a,s b,s c,s d⟩).c) d (Fx ⟨s a,s b,s c,s d⟩).d
theorem Rn(x:Int)(n:Nat)(hx:W32 x)(p q:Int)(hp:p=((2 ^ n:Nat):Int))(hq:q=((2 ^ (32-n):Nat):Int)):bits .or .u32 (x*p%4294967296) (x/q)=CA x n:=by
 unfold W32 at hx;obtain⟨m,rfl⟩:=AcQ hx.1;subst hp;subst hq;have e1:(m:Int)*((2 ^ n:Nat):Int)%4294967296=((m*2 ^ n%4294967296:Nat):Int):=by simp
 have e2:(m:Int)/((2 ^ (32-n):Nat):Int)=((m/2 ^ (32-n):Nat):Int):=by simp
 rw[e1,e2,u32_or_nat _ _ (Nat.mod_lt _ (by decide)) (Nat.lt_of_le_of_lt (Nat.div_le_self _ _) (by omega))];simp[CA]
end Go.Proofs.YthghcjepdhkfdaaGreatDoor
namespace Go.Proofs.YthghcjepdhkfdaaGreatDoor
open Go.RowKit Go.Proofs Go.Lib
open Tryz
def AX(ts:Nat→ByteArray):Nat→ByteArray
 | 0=>ByteArray.empty
 | n+1=>AX ts n++ts n
theorem KE(ts:Nat→ByteArray){i n:Nat}(h:i≤n):(AX ts i).size≤(AX ts n).size:=by
 induction h with
 | refl=>exact Ac4 _
 | step _ ih=>refine AcE ih ?_;rw[AX,ByteArray.size_append];omega
def Strs(w:World)(v:Value)(n:Nat)(ts:Nat→ByteArray):Prop:=∃a c,v=.slice a n c∧(0<n→∃p,a=some p∧∀j,j<n→w.cell? (p.add j)=some (.string (ts j)))
theorem ES(A B:ByteArray)(j:Nat):txt (A++B) j=if j<A.size then txt A j else txt B (j-A.size):=by
 unfold txt;rw[ByteArray.data_append,Array.toList_append];have hA:A.data.toList.length=A.size:=by simp
 simp only[Ade]
 by_cases h:j<A.size
 ·rw[if_pos h,List.getElem?_append_left (by rw[hA];exact h)]
 ·rw[if_neg h,List.getElem?_append_right (by rw[hA];omega),hA]
theorem Vb(n:Nat)(f:Nat→Int)(A B:ByteArray):cat (n+A.size) (cat n f (txt A)) (txt B)=cat n f (txt (A++B)):=by
 funext j
 unfold cat;rw[ES]
 by_cases h1:j<n+A.size
 ·rw[if_pos h1]
  by_cases h2:j<n
  ·rw[if_pos h2,if_pos h2]
  ·rw[if_neg h2,if_neg h2,if_pos (by omega)]
 ·rw[if_neg h1,if_neg (by omega),if_neg (by omega)]
  congr 1;omega
theorem Strs.touch{w w':World}{v:Value}{n:Nat}{ts:Nat→ByteArray}{b:Nat}(h:Strs w v n ts)(hb:∀p n' c,v=.slice (some p) n' c→p.block≠b)(ht:Touch (fun x=>x=b) w w'):Strs w' v n ts:=by
 obtain⟨a,c,rfl,hp⟩:=h;refine⟨a,c,rfl,fun hn=>?_⟩;obtain⟨p,rfl,hc⟩:=hp hn;refine⟨p,rfl,fun j hj=>?_⟩;have h0:=hc j hj;have hl:=World.block_lt_of_cell? _ _ h0;have hpb:(p.add j).block=p.block:=by unfold Addr.add;split<;>rfl
 have e:=ht.block (p.add j).block hl (fun e=>hb p n c rfl (by rw[←hpb];exact e));rw[←h0];exact World.cell?_of_block (w:=w) e
theorem Strs.kept{w w':World}{v:Value}{n:Nat}{ts:Nat→ByteArray}(h:Strs w v n ts)(hk:∀k,k<w.heap.size→w'.heap[k]?=w.heap[k]?):Strs w' v n ts:=by
 obtain⟨a,c,rfl,hp⟩:=h;refine⟨a,c,rfl,fun hn=>?_⟩;obtain⟨p,rfl,hc⟩:=hp hn;refine⟨p,rfl,fun j hj=>?_⟩;have h0:=hc j hj;rw[←h0];exact World.cell?_of_block (w:=w) (hk _ (World.block_lt_of_cell? _ _ h0))
theorem Strs.below{w w':World}{v:Value}{n:Nat}{ts:Nat→ByteArray}(h:Strs w v n ts)(hb:Below w.heap.size w w'):Strs w' v n ts:=h.kept (fun k hk=>hb.block k hk)
theorem Br{B b:Nat}{u v w:World}(h:Below B u v)(ht:Touch (fun x=>x=b) v w)(hb:B≤b)(hB:B≤u.heap.size):Below B u w:=
 ⟨ht.os.trans h.os,ht.tape.trans h.tape,ht.output.trans h.output,AcE h.size ht.size,fun k hk=>(ht.block k (by have:=h.size;omega) (by omega)).trans (h.block k hk)⟩
theorem ArrAt.touch{w w':World}{g b:Nat}{k:IntKind}{t:TypeId}{n:Nat}{s:Nat→Int}(h:ArrAt w g k t n s)(ht:Touch (fun x=>x=b) w w')(hg:g≠b):ArrAt w' g k t n s:=h.block (ht.block g h.lt hg)
theorem Acm(f r:Nat→Int):cat 0 f r=r:=by
 funext i
 unfold cat;rw[if_neg (by omega),Nat.sub_zero]
theorem Ro(s:ByteArray)(w:World):(Instr.buildSlice 146 1 #[(0,.string s)]).run prog w=.ok (.slice (some ⟨w.heap.size,0,none⟩) 1 1) (w.alloc (.cells #[.string s] 9)):=by simp[go_sem]
theorem Kq(s t:ByteArray)(w:World):(Instr.buildSlice 146 2 #[(0,.string s),(1,.string t)]).run prog w=.ok (.slice (some ⟨w.heap.size,0,none⟩) 2 2) (w.alloc (.cells #[.string s,.string t] 9)):=by simp[go_sem]
def Fy(s:ByteArray):Nat→ByteArray:=fun _=>s
def H9(s t:ByteArray):Nat→ByteArray
 | 0=>s
 | _=>t
theorem Gy(s:ByteArray):AX (Fy s) 1=s:=by simp[AX,Fy]
theorem Rp(s t:ByteArray):AX (H9 s t) 2=s++t:=by simp[AX,H9]
theorem ZT{w:World}{b:Nat}{s:ByteArray}(h:w.heap[b]?=some (.cells #[.string s] 9 (0,0))):Strs w (.slice (some ⟨b,0,none⟩) 1 1) 1 (Fy s):=
 ⟨_,_,rfl,fun _=>⟨_,rfl,fun j hj=>by
  obtain rfl:j=0:=by omega
  rw[Addr.add_lit,cell_of_row w b _ _ _ _ h];rfl⟩⟩
theorem ZU{w:World}{b:Nat}{s t:ByteArray}(h:w.heap[b]?=some (.cells #[.string s,.string t] 9 (0,0))):Strs w (.slice (some ⟨b,0,none⟩) 2 2) 2 (H9 s t):=
 ⟨_,_,rfl,fun _=>⟨_,rfl,fun j hj=>by
  rw[Addr.add_lit,cell_of_row w b _ _ _ _ h]
  match j,hj with
  | 0,_=>rfl
  | 1,_=>rfl⟩⟩
theorem Yn{o:Oper}{a:Act}{w:World}{K:Act→World→Prop}{Q:Exit→Act→World→Prop}{x:Operand}(ho:o.op=.buildSlice 146 1 #[(0,x)]){s:ByteArray}(hx:a.eval x=.string s)(h:∀v,v.heap[w.heap.size]?=some (.cells #[.string s] 9 (0,0))→Below w.heap.size w v→K (a.put o.dst (.slice (some ⟨w.heap.size,0,none⟩) 1 1)) v):o.wp prog a w K Q:=by
 have hr:=Ro s w;unfold Oper.wp execOp;simp only[ho,AcH,AcG,AcD,hx,Sem.run_bind,hr,Result.andThen_ok,Sem.run_pure,Oper.upon];exact h _ (heap_alloc_new w _) ((Below.refl _ _).alloc (Ac4 _) _)
theorem Yo{o:Oper}{a:Act}{w:World}{K:Act→World→Prop}{Q:Exit→Act→World→Prop}{x y:Operand}(ho:o.op=.buildSlice 146 2 #[(0,x),(1,y)]){s t:ByteArray}(hx:a.eval x=.string s)(hy:a.eval y=.string t)(h:∀v,v.heap[w.heap.size]?=some (.cells #[.string s,.string t] 9 (0,0))→Below w.heap.size w v→K (a.put o.dst (.slice (some ⟨w.heap.size,0,none⟩) 2 2)) v):o.wp prog a w K Q:=by
 have hr:=Kq s t w;unfold Oper.wp execOp;simp only[ho,AcH,AcG,AcD,hx,hy,Sem.run_bind,hr,Result.andThen_ok,Sem.run_pure,Oper.upon];exact h _ (heap_alloc_new w _) ((Below.refl _ _).alloc (Ac4 _) _)
def Gp(n:Nat)(ts:Nat→ByteArray):List Value:=(AcA n).map fun i=>.string (ts i)
theorem Vc(n:Nat)(ts:Nat→ByteArray):(Gp n ts).length=n:=by simp[Gp]
theorem Rq(n:Nat)(ts:Nat→ByteArray){j:Nat}(h:j<n):(Gp n ts)[j]?=some (.string (ts j)):=by simp[Gp,h]
theorem Vd{n:Nat}{ts:Nat→ByteArray}{j:Nat}{u:Value}(h:(Gp n ts)[j]?=some u):j<n∧u=.string (ts j):=by
 have hj:j<n:=by have:=(List.getElem?_eq_some_iff.1 h).1;simpa [Gp] using this
 refine⟨hj,?_⟩;rw[Rq n ts hj] at h;exact(Option.some.inj h).symm
theorem Ve{n:Nat}{ts:Nat→ByteArray}:∀u∈Gp n ts,u.oneCell'=true:=fun u hu=>by
 obtain⟨i,_,rfl⟩:=List.mem_map.1 hu;rfl
theorem Rr:(Tryz.prog.info? 9).map (fun i=>(i.zero,i.size,i.bytes))=some (some (.string ⟨#[]⟩),1,16):=by kernel_rfl
theorem Kk{w:World}{B:Nat}{v:Value}{n:Nat}{xs:List Value}(ty:TypeId)(c:Nat)(hown:w.ownsRow B 9 1 v n xs):(Builtin.append_ #[146,146] ty #[v,.slice none 0 c]).run prog w=.ok v w:=by
 obtain⟨i,hi,_⟩:=info_parts Rr
 rcases hown.2 with ⟨rfl,rfl⟩ | ⟨g,cap,cur,rfl,_,_,hnc,_⟩
 ·simp[Builtin.append_,run_underlying underlying146,sizeOf,typeInfo,hi,Builtin.lenOf,Builtin.firstCells]
 ·simp[Builtin.append_,run_underlying underlying146,sizeOf,typeInfo,hi,Builtin.lenOf,Builtin.firstCells,hnc,storeCells]
theorem Ru{ops:Array Oper}{rest:List Oper}{d:Option Tmp}{s x:Operand}{ty:TypeId}{ps:String}{af:Array Edge}{a:Act}{w:World}{Q:Exit→Act→World→Prop}{B k n:Nat}{xs:List Value}{v0 vx:Value}{ts:Nat→ByteArray}(hs:a.eval s=v0)(hx:a.eval x=vx)(hD:w.ownsRow B 9 1 v0 k xs)(hS:Strs w vx n ts)(hl:k+n<4000000)(hB:B≤w.heap.size)(h:∀v' w',w'.ownsRow B 9 1 v' (k+n) (xs++Gp n ts)→Below B w w'→wpList prog ops Q rest (a.put d v') w'):wpList prog ops Q ({ dst:=d,op:=.call { callee:=.builtin .append,args:=#[s,x],argTypes:=#[146,146] },type:=ty,pos:=ps,after:=af,guard:=none }::rest) a w:=by
 obtain⟨ad,c,rfl,hp⟩:=hS
 cases ad with
 | none =>
  have hn:n=0:=by
   rcases Nat.eq_zero_or_pos n with h0 | h0
   ·exact h0
   ·obtain⟨p,hp1,_⟩:=hp h0
    cases hp1
  subst hn;refine wpList_plain rfl fun K hK=>?_
  have hrun:=Kk ty c hD;unfold Oper.wp;simp[execOp,resolve,invoke,builtin,hs,hx,hrun,Result.andThen];exact hK _ _ (h v0 w (by simpa [Gp] using hD) (Below.refl _ _))
 | some p =>
  obtain⟨i0,hi,hz0,hz1,hz2⟩:=info_parts Rr;refine wpList_append_own w rfl s x 146 rfl B 9 i0 (.string ⟨#[]⟩) 1 16 underlying146 hi hz0 hz1 hz2 rfl (by decide) _ k _ hs hD p n c (Gp n ts) hx (by rw[Vc];omega) ?_ Ve ?_ ?_ hB ?_
  ·intro j u hj
   obtain⟨hj2,rfl⟩:=Vd hj;obtain⟨q,hq,hc⟩:=hp (by omega);obtain rfl:=Option.some.inj hq;exact hc j hj2
  ·unfold maxLen;omega
  ·omega
  ·intro v' w1 hown hgrow _
   exact h v' w1 hown (Below.grow hgrow hB (I0 hD))
theorem S3{w:World}{g n cap:Nat}{cur:Array Value}{ts:Nat→ByteArray}(h:w.heap[g]?=some (.cells cur 9 (0,0)))(hc:∀j,j<n→cur[j]?=some (.string (ts j))):Strs w (.slice (some ⟨g,0,none⟩) n cap) n ts:=
 ⟨_,_,rfl,fun _=>⟨_,rfl,fun j hj=>by
  rw[Addr.add_lit,cell_of_row w g _ _ _ _ h,Ac9];exact hc j hj⟩⟩
theorem Fz{w:World}{p:Addr}{s:ByteArray}(h:w.cell? p=some (.string s)):(Instr.loadAt 9 (.pointer (some p))).run prog w=.ok (.string s) w:=by
 simp[go_sem,h]
theorem FM{ops:Array Oper}{rest:List Oper}{d:Option Tmp}{x:Operand}{ty:TypeId}{ps:String}{af:Array Edge}{a:Act}{w:World}{Q:Exit→Act→World→Prop}{s:ByteArray}(hx:a.eval x=.string s)(h:∀w2,Strs w2 (.slice (some ⟨w.heap.size,0,none⟩) 1 1) 1 (Fy s)→Below w.heap.size w w2→w2.heap.size=w.heap.size+1→wpList prog ops Q rest (a.put d (.slice (some ⟨w.heap.size,0,none⟩) 1 1)) w2):wpList prog ops Q ({ dst:=d,op:=.buildSlice 146 1 #[(0,x)],type:=ty,pos:=ps,after:=af,guard:=none }::rest) a w:=by
 have hr:=Ro s w;refine CF rfl ?_;unfold Oper.wp execOp;simp only[AcH,AcG,AcD,hx,Sem.run_bind,hr,Result.andThen_ok,Sem.run_pure,Oper.upon];exact h _ (ZT (heap_alloc_new w _)) ((Below.refl _ _).alloc (Ac4 _) _) (by simp)
theorem KF{ops:Array Oper}{rest:List Oper}{d:Option Tmp}{x y:Operand}{ty:TypeId}{ps:String}{af:Array Edge}{a:Act}{w:World}{Q:Exit→Act→World→Prop}{s t:ByteArray}(hx:a.eval x=.string s)(hy:a.eval y=.string t)(h:∀w2,Strs w2 (.slice (some ⟨w.heap.size,0,none⟩) 2 2) 2 (H9 s t)→Below w.heap.size w w2→w2.heap.size=w.heap.size+1→wpList prog ops Q rest (a.put d (.slice (some ⟨w.heap.size,0,none⟩) 2 2)) w2):wpList prog ops Q ({ dst:=d,op:=.buildSlice 146 2 #[(0,x),(1,y)],type:=ty,pos:=ps,after:=af,guard:=none }::rest) a w:=by
 have hr:=Kq s t w;refine CF rfl ?_;unfold Oper.wp execOp;simp only[AcH,AcG,AcD,hx,hy,Sem.run_bind,hr,Result.andThen_ok,Sem.run_pure,Oper.upon];exact h _ (ZU (heap_alloc_new w _)) ((Below.refl _ _).alloc (Ac4 _) _) (by simp)
theorem Oo{a b:ByteArray}(hl:a.size=b.size)(h:∀j,j<a.size→txt a j=txt b j):a=b:=by
 refine ByteArray.ext (Array.ext hl (fun i h1 h2=>?_));have:=h i h1;rw[←Cz h1,←Cz (s:=b) h2] at this;have h3:(a.data[i].toNat:Int)=b.data[i].toNat:=this;exact UInt8.toNat_inj.1 (Int.ofNat.inj h3)
theorem xor_zero{x y:Nat}:x ^^^ y=0↔x=y:=by
 constructor
 ·intro h
  have h2:x ^^^ y ^^^ y=x:=by rw[Nat.xor_assoc,Nat.xor_self,Nat.xor_zero]
  rw[h,Nat.zero_xor] at h2;exact h2.symm
 ·rintro rfl
  exact Nat.xor_self _
theorem Oq{k n:Nat}{ts ts':Nat→ByteArray}(h:∀j,j<n→ts' j=ts (k+j)):Gp k ts++Gp n ts'=Gp (k+n) ts:=by
 unfold Gp;rw[List.range_add,List.map_append,List.map_map];congr 1;refine List.map_congr_left (fun j hj=>?_);simp[h j (List.mem_range.1 hj)]
theorem Vf{w:World}{B:Nat}{v:Value}{n:Nat}{ts:Nat→ByteArray}(h:w.ownsRow B 9 1 v n (Gp n ts))(hn:0<n):Strs w v n ts:=by
 rcases h.2 with ⟨_,h0⟩ | ⟨g,cap,cur,rfl,hb,hg,hc,_,hs,ht⟩
 ·omega
 ·refine S3 hg (fun j hj=>?_)
  rw[Nat.mul_one] at ht
  have e:cur[j]?=(Gp n ts)[j]?:=by
   rw[←ht,Adj,if_pos hj];simp
  rw[e,Rq n ts hj]
end Go.Proofs.YthghcjepdhkfdaaGreatDoor
