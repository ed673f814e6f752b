/-
  Own text. Digits to the base 256 as functions: their number; what the document's answer for poly does to them. No program is named here.
-/
import Derived.Test.YthghcjepdhkfdaaGreatDoorJB1
import Derived.Deep.OwnRows
import Derived.Laws.Bits64b
import Derived.Deep.QuietTactic
import Derived.BigQuiet
import Derived.Lib.LazyBuf
set_option maxHeartbeats 16000000
set_option maxRecDepth 100000
open Array renaming ext_getElem?→AcK,getElem?_eq_none→Acv
open Bool renaming and_eq_true→Acm
open Int renaming add_mul_ediv_left→AcS,add_mul_emod_self_left→AcQ,ediv_ediv_of_nonneg→AcO,emod_eq_of_lt→AcN,eq_ofNat_of_zero_le→Ac3,le_of_lt→Ac4,mul_add→Acw,mul_assoc→Acn,mul_comm→Acy,mul_le_mul_of_nonneg_left→Ac9,mul_le_mul_of_nonneg_right→AcT,pow_add→Ac2,pow_succ→Acr,reducePow→AcA,tdiv_eq_ediv_of_nonneg→Ac8,tmod_eq_emod_of_nonneg→Acz
open List renaming getElem?_eq_none→Ac7,range→Aco,setIfInBounds_toArray→Aci,set_cons_succ→Ach,set_cons_zero→Acj,take_of_length_le→AcD
open Nat renaming add_sub_cancel_left→Ac0,add_zero→Ac6,le_refl→Acg,le_trans→Acp,lt_or_ge→Ac5,zero_add→Acl
namespace Go.Proofs.YthghcjepdhkfdaaGreatDoor
open Go.RowKit Go.Proofs
open Tryz
def dval(s:Nat→Int):Nat→Int
 | 0=>0
 | n+1=>dval s n+256 ^ n*s n
theorem G8(n:Nat):(0:Int)<256 ^ n:=Int.pow_pos (by decide)
theorem BW{s t:Nat→Int}:∀{n:Nat},(∀i,i<n→s i=t i)→dval s n=dval t n
 | 0,_=>rfl
 | n+1,h=>by unfold dval;rw[BW (fun i hi=>h i (by omega)),h n (by omega)]
theorem Bw{s:Nat→Int}:∀{n:Nat},(∀i,i<n→0≤s i)→0≤dval s n
 | 0,_=>by simp[dval]
 | n+1,h=>by
  have h1:=Bw (n:=n) (fun i hi=>h i (by omega));have h2:=Int.mul_nonneg (Ac4 (G8 n)) (h n (by omega));unfold dval;omega
theorem Hf{s:Nat→Int}:∀{n:Nat},(∀i,i<n→0≤s i∧s i<256)→dval s n<256 ^ n
 | 0,_=>by simp[dval]
 | n+1,h=>by
  have h1:=Hf (n:=n) (fun i hi=>h i (by omega));have h2:=h n (by omega);have h3:(256:Int) ^ n*s n≤256 ^ n*255:=Ac9 (by omega) (Ac4 (G8 n));unfold dval;rw[Acr];omega
theorem EP{s:Nat→Int}{i:Nat}{v:Int}:∀{n:Nat},i<n→dval (upd s i v) n=dval s n+256 ^ i*(v-s i)
 | 0,h=>by omega
 | n+1,h=>by
  unfold dval
  by_cases e:i=n
  ·subst e
   rw[BW (t:=s) (fun j hj=>by unfold upd;rw[if_neg (by omega)])];unfold upd;rw[if_pos rfl,Int.mul_sub];omega
  ·rw[EP (by omega)]
   unfold upd;rw[if_neg (fun h=>e h.symm)];omega
theorem D6{s:Nat→Int}{n:Nat}:∀{m:Nat},n≤m→(∀i,n≤i→i<m→s i=0)→dval s m=dval s n
 | 0,h,_=>by rw[show n=0 by omega]
 | m+1,h,hz=>by
  by_cases e:n=m+1
  ·rw[e]
  ·show dval s m+256 ^ m*s m=dval s n
   rw[D6 (m:=m) (by omega) (fun i h1 h2=>hz i h1 (by omega)),hz m (by omega) (by omega)];simp
theorem Df(s:Nat→Int)(a:Nat):∀(n:Nat),dval s (a+n)=dval s a+256 ^ a*dval (fun j=>s (a+j)) n
 | 0=>by simp[dval]
 | n+1=>by
  show dval s (a+n)+256 ^ (a+n)*s (a+n)=dval s a+256 ^ a*(dval (fun j=>s (a+j)) n+256 ^ n*s (a+n));rw[Df s a n,Acw,Ac2,Acn];omega
def pad(s:Nat→Int)(n:Nat)(i:Nat):Int:=if i<n then s i else 0
theorem O5(s:Nat→Int)(n m:Nat)(h:n≤m):dval (pad s n) m=dval s n:=by
 rw[D6 h (fun i h1 _=>by unfold pad;rw[if_neg (by omega)])];exact BW (fun i hi=>by unfold pad;rw[if_pos hi])
def Dg(m:Int)(n:Nat)(s:Nat→Int):Prop:=∀i,i<n→0≤s i∧s i<m
structure Car (s:Nat→Int) (n k:Nat) (c:Int) (e:Nat→Int):Prop where
 dg:Dg 256 k e
 c0:0≤c
 c1:c<1099511627776
 late:∀j,k=n+j→c*256 ^ j<1099511627776
 num:dval e k+256 ^ k*c=dval (pad s n) k
theorem Car.start(s:Nat→Int)(n:Nat)(e:Nat→Int):Car s n 0 0 e:=⟨fun i hi=>by omega,by omega,by omega,fun j _=>by simp,by simp[dval]⟩
theorem Car.step{s:Nat→Int}{n k:Nat}{c:Int}{e e':Nat→Int}(h:Car s n k c e)(hs:Dg 8796093022208 n s)(he:∀i,i<k→e' i=e i)(hk:e' k=(c+pad s n k)%256):Car s n (k+1) ((c+pad s n k)/256) e':=by
 have hp:0≤pad s n k∧pad s n k<8796093022208:=by
  unfold pad
  split
  ·exact hs k (by assumption)
  ·omega
 have h0:=h.c0;have h1:=h.c1;refine⟨fun i hi=>?_,by omega,by omega,fun j hj=>?_,?_⟩
 ·by_cases e1:i<k
  ·rw[he i e1];exact h.dg i e1
  ·rw[show i=k by omega,hk];omega
 ·cases j with
  | zero=>simp;omega
  | succ j =>
   have hl:=h.late j (by omega);have hz:pad s n k=0:=by unfold pad;rw[if_neg (by omega)]
   rw[hz,Int.add_zero,Acr];have h2:c/256*256≤c:=by omega
   have h3:c/256*256*256 ^ j≤c*256 ^ j:=AcT h2 (Ac4 (G8 j));have h4:c/256*(256 ^ j*256)=c/256*256*256 ^ j:=by rw[Acy (256 ^ j) 256,←Acn]
   omega
 ·show dval e' k+256 ^ k*e' k+_=dval (pad s n) k+256 ^ k*pad s n k
  rw[BW he,hk,←h.num,Acr];have e2:c+pad s n k=(c+pad s n k)%256+256*((c+pad s n k)/256):=by omega
  have e3:256 ^ k*(c+pad s n k)=256 ^ k*((c+pad s n k)%256)+256 ^ k*256*((c+pad s n k)/256):=by
   conv=>lhs;rw[e2]
   rw[Acw,Acn]
  rw[Acw] at e3;omega
theorem Car.few{s:Nat→Int}{n k:Nat}{c:Int}{e:Nat→Int}(h:Car s n k c e)(hk:n+5≤k):c=0:=by
 have h0:=h.c0;have hl:=h.late (k-n) (by omega)
 have hp:(256:Int) ^ 5≤256 ^ (k-n):=by
  obtain⟨d,hd⟩:∃d,k-n=5+d:=⟨k-n-5,by omega⟩;rw[hd,Ac2];have:=G8 d;have h5:(256:Int) ^ 5*1≤256 ^ 5*256 ^ d:=Ac9 (by omega) (by decide);omega
 rcases Int.lt_or_le 0 c with hc | hc
 ·have h6:1*(256:Int) ^ 5≤c*256 ^ (k-n):=Int.mul_le_mul (by omega) hp (by decide) (by omega)
  have h7:(256:Int) ^ 5=1099511627776:=by decide
  omega
 ·omega
structure Cared (s:Nat→Int) (n m:Nat) (e:Nat→Int):Prop where
 dg:Dg 256 m e
 num:dval e m=dval s n
 lo:18≤m
 hi:m≤max (n+5) 18
theorem Car.done{s:Nat→Int}{n k:Nat}{e:Nat→Int}(h:Car s n k 0 e)(hn:n≤k)(h18:18≤k)(hh:k≤max (n+5) 18):Cared s n k e:=
 ⟨h.dg,by have:=h.num;rw[O5 s n k hn] at this;omega,h18,hh⟩
def P130:Int:=1361129467683753853853498429727072845819
def CL:Int:=1361129467683753853853498429727072845824
def hid(x:Nat→Int)(j:Nat):Int:=x (16+j)/4+x (17+j)%4*64
theorem R5(x:Nat→Int)(hx:∀i,0≤x i):∀k,4*dval (hid x) k+x 16%4=dval (fun j=>x (16+j)) k+x (16+k)%4*256 ^ k
 | 0=>by simp[dval]
 | k+1=>by
  have ih:=R5 x hx k;have h1:=hx (16+k);unfold dval;rw[Acw,Acr];have e1:4*(256 ^ k*hid x k)=256 ^ k*(4*hid x k):=by rw[←Acn,Acy 4,Acn]
  have e2:4*hid x k=x (16+k)-x (16+k)%4+256*(x (17+k)%4):=by unfold hid;omega
  have e3:256 ^ k*(x (16+k)-x (16+k)%4+256*(x (17+k)%4))=256 ^ k*x (16+k)-x (16+k)%4*256 ^ k+x (17+k)%4*(256 ^ k*256):=by
   rw[Acw,Int.mul_sub,Acy (256 ^ k) (x (16+k)%4),←Acn,Acy (256 ^ k*256)]
  rw[e1,e2,e3,show 16+(k+1)=17+k by omega];omega
theorem JS:(256:Int) ^ 16=340282366920938463463374607431768211456:=by decide
theorem Tb(x:Nat→Int)(m:Nat)(hm:16≤m)(hx:Dg 256 m x):dval x m=(dval x 16+340282366920938463463374607431768211456*(pad x m 16%4))+CL*dval (hid (pad x m)) (m-16)∧0≤dval x 16+340282366920938463463374607431768211456*(pad x m 16%4)∧dval x 16+340282366920938463463374607431768211456*(pad x m 16%4)<CL:=by
 have hp:∀i,0≤pad x m i:=fun i=>by
  unfold pad
  split
  ·exact(hx i (by assumption)).1
  ·omega
 have h:=R5 (pad x m) hp (m-16);have hz:pad x m (16+(m-16))=0:=by unfold pad;rw[if_neg (by omega)]
 rw[hz] at h;have hs:=Df (pad x m) 16 (m-16);rw[show 16+(m-16)=m by omega,O5 x m m (Acg _),JS] at hs;have e16:dval (pad x m) 16=dval x 16:=BW (fun i hi=>by unfold pad;rw[if_pos (by omega)]);rw[e16] at hs;have h1:=Bw (s:=x) (n:=16) (fun i hi=>(hx i (by omega)).1);have h2:=Hf (s:=x) (n:=16) (fun i hi=>hx i (by omega));rw[JS] at h2;unfold CL;simp only[Int.zero_emod,Int.zero_mul,Int.add_zero] at h;refine⟨?_,by omega,by omega⟩;rw[hs];omega
theorem Ee(k:Nat)(e:Nat→Int)(d:Int):(∀i,i<k→cat k e (fun _=>d) i=e i)∧cat k e (fun _=>d) k=d:=by
 constructor
 ·intro i hi
  unfold cat;rw[if_pos hi]
 ·unfold cat
  rw[if_neg (by omega)]
theorem G9(s:Nat→Int)(n b cp:Nat)(w:World)(hR:RowAt w b .i64 3 n s)(hs:Dg 8796093022208 n s)(hn:n≤100):Calls prog 193 #[.slice (some ⟨b,0,none⟩) n cp,.int .i64 18] w fun r w'=>∃g c m e,r=.returned (.slice (some ⟨g,0,none⟩) m c)∧Cared s n m e∧w'.ownsRow w.heap.size 3 1 (.slice (some ⟨g,0,none⟩) m c) m (AC .i64 m e)∧Below w.heap.size w w':=by
 have hb:=hR.lt;go_enter func193,ntmps193;go_wp2_with fail
 go_loopg [5,6,7] (max (n+5) 18) (fun m v cv iv wr=>∃(k:Nat) (c:Int) (e:Nat→Int),Hid (m+k=max (n+5) 18)∧cv=.int .i64 c∧iv=.int .i64 (k:Int)∧Hid (Car s n k c e)∧wr.ownsRow w.heap.size 3 1 v k (AC .i64 k e)∧Below w.heap.size w wr)
 case atStart=>exact⟨0,0,fun _=>0,Hid.mk (by omega),rfl,rfl,Hid.mk (Car.start s n _),World.ownsRow_nil w _ _ _,Below.refl _ _⟩
 case round =>
  obtain⟨k,c,e,HM,rfl,rfl,HC,hO,hB⟩:=hrel;have hc0:=HC.out.c0;have hc1:=HC.out.c1;have hkm:k≤max (n+5) 18:=by have:=HM.out;omega
  by_cases hlt:k<n
  ·have cx:=(hR.below hB hb).cell k hlt
   have hx0:=(hs k hlt).1;have hx1:=(hs k hlt).2;have hkm2:k<max (n+5) 18:=by omega
   have HS:Hid (∀e':Nat→Int,(∀i,i<k→e' i=e i)→e' k=(c+s k)%256→Car s n (k+1) ((c+s k)/256) e'):=Hid.mk (fun e' h1 h2=>by
    have hp:pad s n k=s k:=by unfold pad;rw[if_pos hlt]
    have:=HC.out.step (e':=e') hs h1 (by rw[hp];exact h2);rw[hp] at this;exact this)
   generalize s k=x at *
   go_wp2_with (at_builtin;refine Db rfl _ _ 171 3 .i64 8 underlying171 B1 (by decide) (by rfl) (n:=k) (m:=1) (by rfl) (Bp hO ((Below.refl _ wr).alloc (Acg _) _)) (by rfl) (r:=fun _=>(c+x)%256) (fun j hj=>by obtain rfl:j=0:=(by omega);exact cell_of_row _ _ 0 _ _ _ (heap_alloc_new wr _)) (by omega) (hB.alloc hB.size _).size ?_;intro v2 w2 h2 hb2;refine Hid.out ?_)
   have CS:=HS.out _ (Ee k e ((c+x)%256)).1 (Ee k e ((c+x)%256)).2;have HC2:=Hid.mk CS;have hB2:=(hB.alloc hB.size (.cells #[.int .i64 ((c+x)%256)] 3)).trans hb2;clear HS CS hb2 hO HC;refine Hid.mk ?_;go_wp2_with fail
   go_roundg (max (n+5) 18-(k+1))
   case rel=>exact⟨k+1,_,_,Hid.mk (by omega),rfl,by go_num,HC2,h2,hB2⟩
   case measure=>have:=HM.out;omega
  ·have hpz:pad s n k=0:=by unfold pad;rw[if_neg (by omega)]
   by_cases hcp:0<c
   ·have hkm2:k<max (n+5) 18:=by
     rcases Ac5 k (n+5) with h | h
     ·omega
     ·have:=HC.out.few h
      omega
    have HS:Hid (∀e':Nat→Int,(∀i,i<k→e' i=e i)→e' k=c%256→Car s n (k+1) (c/256) e'):=Hid.mk (fun e' h1 h2=>by
     have:=HC.out.step (e':=e') hs h1 (by rw[hpz,Int.add_zero];exact h2);rw[hpz,Int.add_zero] at this;exact this)
    go_wp2_with (at_builtin;refine Db rfl _ _ 171 3 .i64 8 underlying171 B1 (by decide) (by rfl) (n:=k) (m:=1) (by rfl) (Bp hO ((Below.refl _ wr).alloc (Acg _) _)) (by rfl) (r:=fun _=>c%256) (fun j hj=>by obtain rfl:j=0:=(by omega);exact cell_of_row _ _ 0 _ _ _ (heap_alloc_new wr _)) (by omega) (hB.alloc hB.size _).size ?_;intro v2 w2 h2 hb2;refine Hid.out ?_)
    have CS:=HS.out _ (Ee k e (c%256)).1 (Ee k e (c%256)).2;have HC2:=Hid.mk CS;have hB2:=(hB.alloc hB.size (.cells #[.int .i64 (c%256)] 3)).trans hb2;clear HS CS hb2 hO HC;refine Hid.mk ?_;go_wp2_with fail
    go_roundg (max (n+5) 18-(k+1))
    case rel=>exact⟨k+1,_,_,Hid.mk (by omega),rfl,by go_num,HC2,h2,hB2⟩
    case measure=>have:=HM.out;omega
   ·have hcz:c=0:=by omega
    subst hcz
    by_cases h18:k<18
    ·have HS:Hid (∀e':Nat→Int,(∀i,i<k→e' i=e i)→e' k=0→Car s n (k+1) 0 e'):=Hid.mk (fun e' h1 h2=>by
      have:=HC.out.step (e':=e') hs h1 (by rw[hpz];exact h2);rw[hpz] at this;exact this)
     go_wp2_with (at_builtin;refine Db rfl _ _ 171 3 .i64 8 underlying171 B1 (by decide) (by rfl) (n:=k) (m:=1) (by rfl) (Bp hO ((Below.refl _ wr).alloc (Acg _) _)) (by rfl) (r:=fun _=>0) (fun j hj=>by obtain rfl:j=0:=(by omega);exact cell_of_row _ _ 0 _ _ _ (heap_alloc_new wr _)) (by omega) (hB.alloc hB.size _).size ?_;intro v2 w2 h2 hb2;refine Hid.out ?_)
     have CS:=HS.out _ (Ee k e (0)).1 (Ee k e (0)).2;have HC2:=Hid.mk CS;have hB2:=(hB.alloc hB.size (.cells #[.int .i64 (0)] 3)).trans hb2;clear HS CS hb2 hO HC;refine Hid.mk ?_;go_wp2_with fail
     go_roundg (max (n+5) 18-(k+1))
     case rel=>exact⟨k+1,_,_,Hid.mk (by omega),rfl,by go_num,HC2,h2,hB2⟩
     case measure=>have:=HM.out;omega
    ·have hD:=HC.out.done (by omega) (by omega) hkm
     obtain⟨g,cg,rfl,hg1,hg2,hg3⟩:=CU hO (by omega);go_wp2_with fail
     go_ret
     exact⟨g,cg,k,rfl,e,hD,hO,hB⟩
theorem GA{s:Nat→Int}{i:Nat}:∀{n:Nat},(∀j,j<n→0≤s j)→i<n→256 ^ i*s i≤dval s n
 | 0,_,h=>by omega
 | n+1,hs,h=>by
  have h0:=Bw (s:=s) (n:=n) (fun j hj=>hs j (by omega));unfold dval
  by_cases e:i=n
  ·subst e;omega
  ·have h1:=GA (n:=n) (fun j hj=>hs j (by omega)) (show i<n by omega)
   have h2:=Int.mul_nonneg (Ac4 (G8 n)) (hs n (by omega));omega
theorem J3(e:Nat→Int):∀n,dval (fun i=>255-e i) n=256 ^ n-1-dval e n
 | 0=>by simp[dval]
 | n+1=>by
  unfold dval;rw[J3 e n,Int.mul_sub,Acr];omega
theorem Tc{e:Nat→Int}{m:Nat}(hm:18≤m)(he:Dg 256 m e)(hX:dval e m<CL):(e 16=3∧251≤e 0∧∀i,1≤i→i<16→e i=255)↔P130≤dval e m:=by
 have hlt:=hX
 have h17:dval e m=dval e 17:=by
  refine D6 (by omega) (fun i h1 h2=>?_);have h3:=GA (s:=e) (fun j hj=>(he j hj).1) h2;have h4:=he i h2
  rcases Int.lt_or_le 0 (e i) with h | h
  ·exfalso
   have h5:(256:Int) ^ 17≤256 ^ i:=by
    obtain⟨d,hd⟩:∃d,i=17+d:=⟨i-17,by omega⟩;rw[hd,Ac2];have:=G8 d;have h6:(256:Int) ^ 17*1≤256 ^ 17*256 ^ d:=Ac9 (by omega) (by decide);omega
   have h6:(256:Int) ^ i*1≤256 ^ i*e i:=Ac9 (by omega) (Ac4 (G8 i));have h7:(256:Int) ^ 17=87112285931760246646623899502532662132736:=by decide
   unfold CL at hlt;omega
  ·omega
 have e17:dval e 17=dval e 16+340282366920938463463374607431768211456*e 16:=by
  show dval e 16+256 ^ 16*e 16=_;rw[JS]
 have hc:=J3 e 16;rw[JS] at hc;have h16:=he 16 (by omega);have hn:=Bw (s:=fun i=>255-e i) (n:=16) (fun i hi=>by have:=he i (by omega);omega);have hl:=Bw (s:=e) (n:=16) (fun i hi=>(he i (by omega)).1);unfold CL at hlt;unfold P130;rw[h17,e17] at hlt ⊢;constructor
 ·rintro⟨h1,h2,h3⟩
  have hz:dval (fun i=>255-e i) 16=255-e 0:=by
   have:=D6 (s:=fun i=>255-e i) (n:=1) (m:=16) (by omega) (fun i h4 h5=>by have:=h3 i h4 h5;omega);rw[this];simp[dval]
  omega
 ·intro hge
  have h163:e 16=3:=by omega
  have hsm:dval (fun i=>255-e i) 16≤4:=by omega
  have hnn:∀j,j<16→0≤255-e j:=fun j hj=>by have:=he j (by omega);omega
  refine⟨h163,?_,fun i h1 h2=>?_⟩
  ·have:=GA (s:=fun i=>255-e i) (i:=0) (n:=16) hnn (by omega)
   simp at this;omega
  ·have h3:=GA (s:=fun i=>255-e i) (i:=i) (n:=16) hnn h2
   have h4:=hnn i h2
   rcases Int.lt_or_le 0 (255-e i) with h | h
   ·exfalso
    have h5:(256:Int) ^ 1≤256 ^ i:=by
     obtain⟨d,hd⟩:∃d,i=1+d:=⟨i-1,by omega⟩;rw[hd,Ac2];have:=G8 d;have h6:(256:Int) ^ 1*1≤256 ^ 1*256 ^ d:=Ac9 (by omega) (by decide);omega
    have h6:(256:Int) ^ i*1≤256 ^ i*(255-e i):=Ac9 (by omega) (Ac4 (G8 i));simp at h5;omega
   ·have:=he i (by omega)
    omega
theorem Td{e:Nat→Int}{m:Nat}(hm:18≤m)(he:Dg 256 m e)(hX:dval e m<CL)(h1:e 16=3)(h3:∀i,1≤i→i<16→e i=255):dval e m=CL-256+e 0:=by
 have hc:=J3 e 16;rw[JS] at hc
 have hz:dval (fun i=>255-e i) 16=255-e 0:=by
  have:=D6 (s:=fun i=>255-e i) (n:=1) (m:=16) (by omega) (fun i h4 h5=>by have:=h3 i h4 h5;omega);rw[this];simp[dval]
 have h17:dval e 17=dval e 16+340282366920938463463374607431768211456*e 16:=by
  show dval e 16+256 ^ 16*e 16=_;rw[JS]
 have hs:=Df e 17 (m-17);rw[show 17+(m-17)=m by omega] at hs;have hn:=Bw (s:=fun j=>e (17+j)) (n:=m-17) (fun i hi=>(he (17+i) (by omega)).1);have hp:(256:Int) ^ 17=87112285931760246646623899502532662132736:=by decide
 have h0:=he 0 (by omega);rw[hp] at hs;unfold CL at *;omega
theorem AaV{x:Nat→Int}{m:Nat}(hx:Dg 256 m x)(j:Nat):0≤hid (pad x m) j∧hid (pad x m) j<256:=by
 have hp:∀i,0≤pad x m i∧pad x m i<256:=fun i=>by
  unfold pad
  split
  ·exact hx i (by assumption)
  ·omega
 have h1:=hp (16+j);have h2:=hp (17+j);unfold hid;omega
theorem N7{w:World}{B g c:Nat}{e:TypeId}{n:Nat}{k:IntKind}{s:Nat→Int}(h:w.ownsRow B e 1 (.slice (some ⟨g,0,none⟩) n c) n (AC k n s))(i:Nat)(v:Int)(hi:i<n):(w.setCell ⟨g,i,none⟩ (.int k v)).ownsRow B e 1 (.slice (some ⟨g,0,none⟩) n c) n (AC k n (upd s i v)):=by
 have h1:=(World.ownsRow.stored h i (.int k v)).1
 have e1:(AC k n s).set i (.int k v)=AC k n (upd s i v):=by
  apply List.ext_getElem?;intro j;rw[List.getElem?_set]
  by_cases hj:i=j
  ·subst hj
   rw[if_pos rfl,if_pos (by rw[A3];exact hi),BC k n _ hi];simp[upd]
  ·rw[if_neg hj]
   by_cases h2:j<n
   ·rw[BC k n s h2,BC k n _ h2]
    unfold upd;rw[if_neg (fun h=>hj h.symm)]
   ·rw[Ac7 (by rw[A3];omega),Ac7 (by rw[A3];omega)]
 rw[e1] at h1;exact h1
theorem Ez(hd:Nat→Int)(j:Nat)(h:∀j,0≤hd j∧hd j<256):decide (0<dval hd (j+1))=(decide (0<dval hd j) || decide (0<hd j)):=by
 have h0:=Bw (s:=hd) (n:=j) (fun i _=>(h i).1);have h1:=(h j).1;have hp:=G8 j;show decide (0<dval hd j+256 ^ j*hd j)=_
 rcases Int.lt_or_le 0 (hd j) with hj | hj
 ·have h2:(0:Int)<256 ^ j*hd j:=Int.mul_pos hp hj
  rw[decide_eq_true (by omega),decide_eq_true hj];simp
 ·rw[show hd j=0 by omega]
  simp
def DigS(w:World)(B g c m:Nat)(e:Nat→Int):Prop:=w.ownsRow B 3 1 (.slice (some ⟨g,0,none⟩) m c) m (AC .i64 m e)
theorem DigS.row{w:World}{B g c m:Nat}{e:Nat→Int}(h:DigS w B g c m e)(hm:0<m):RowAt w g .i64 3 m e:=by
 obtain⟨b,cp,h1,_,_,h2⟩:=CU h hm;simp only[Value.slice.injEq,Option.some.injEq,Addr.mk.injEq,and_true,true_and] at h1;rw[h1.1];exact h2
theorem DigS.cap{w:World}{B g c m:Nat}{e:Nat→Int}(h:DigS w B g c m e)(hm:0<m):m≤c:=by
 obtain⟨b,cp,h1,_,h2,_⟩:=CU h hm;simp only[Value.slice.injEq,Option.some.injEq,Addr.mk.injEq,and_true,true_and] at h1;omega
theorem DigS.base{w:World}{B g c m:Nat}{e:Nat→Int}(h:DigS w B g c m e):B≤g:=I2 h g rfl
theorem DigS.lt{w:World}{B g c m:Nat}{e:Nat→Int}(h:DigS w B g c m e):g<w.heap.size:=by
 rcases h.2 with ⟨h',_⟩ | ⟨g',cap',cur,h',_,hg,_⟩
 ·simp at h'
 ·simp only[Value.slice.injEq,Option.some.injEq,Addr.mk.injEq,and_true,true_and] at h'
  rw[h'.1];exact Aa hg
theorem DigS.block{w w':World}{B g c m:Nat}{e:Nat→Int}(h:DigS w B g c m e)(hb:w'.heap[g]?=w.heap[g]?):DigS w' B g c m e:=by
 refine⟨h.1,?_⟩
 rcases h.2 with hn | ⟨g',cap,cur,hv,hB,hg,rest⟩
 ·exact .inl hn
 ·have e:=hv
  simp only[Value.slice.injEq,Option.some.injEq,Addr.mk.injEq,and_true,true_and] at e;obtain⟨rfl,rfl⟩:=e;exact .inr ⟨g,c,cur,hv,hB,hb.trans hg,rest⟩
theorem DigS.below{w w':World}{B C g c m:Nat}{e:Nat→Int}(h:DigS w B g c m e)(hb:Below C w w')(hC:g<C):DigS w' B g c m e:=h.block (hb.block g hC)
theorem Ys{w:World}{B C:Nat}{e:TypeId}{v:Value}{n:Nat}{xs:List Value}(h:w.ownsRow B e 1 v n xs)(hC:C≤B):w.ownsRow C e 1 v n xs:=by
 refine⟨h.1,?_⟩
 rcases h.2 with hn | ⟨g,cap,cur,hv,hB,rest⟩
 ·exact .inl hn
 ·exact .inr ⟨g,cap,cur,hv,Acp hC hB,rest⟩
def lst(e:Nat→Int):Nat→Bool
 | 0=>decide (e 16=3) && decide (251≤e 0)
 | i+1=>lst e i && decide (e (i+1)=255)
theorem FQ(e:Nat→Int):∀i,lst e i=true↔(e 16=3∧251≤e 0∧∀q,1≤q→q<i+1→e q=255)
 | 0=>by
  simp only[lst,Acm,decide_eq_true_eq];exact⟨fun h=>⟨h.1,h.2,fun q h1 h2=>by omega⟩,fun h=>⟨h.1,h.2.1⟩⟩
 | i+1=>by
  simp only[lst,Acm,decide_eq_true_eq,FQ e i];constructor
  ·rintro⟨⟨h1,h2,h3⟩,h4⟩
   refine⟨h1,h2,fun q h5 h6=>?_⟩
   by_cases hq:q=i+1
   ·rw[hq];exact h4
   ·exact h3 q h5 (by omega)
  ·rintro⟨h1,h2,h3⟩
   exact⟨⟨h1,h2,fun q h5 h6=>h3 q h5 (by omega)⟩,h3 (i+1) (by omega) (by omega)⟩
theorem AaW(w:World):(Instr.makeSlice 171 (.int .i64 18) (.int .i64 18)).run prog w=.ok (.slice (some ⟨w.heap.size,0,none⟩) 18 18) (w.alloc (.cells (WA .i64 18 fun _=>0) 3)):=by
 have h:=run_make_row' (P:=prog) 171 3 (.int .i64 0) 8 underlying171 B1 rfl .i64 .i64 18 (by omega) (by omega) w;rw[show madeCells #[Value.int .i64 0] 18=WA .i64 18 (fun _=>0) from by kernel_rfl] at h;exact h
theorem Yt{w:World}{g n:Nat}{s:Nat→Int}(h:ArrAt w g .i64 3 n s){B:Nat}(hB:B≤g)(hn:n≤1000000):DigS w B g n n s:=by
 refine⟨by rw[A3];omega,.inr ⟨g,n,_,rfl,hB,h,Acg _,by unfold maxLen;omega,by rw[A5];omega,?_⟩⟩;rw[Nat.mul_one,AcD (by simp[WA])];simp[WA,AC]
def Aab(V:Int)(w w':World)(g c m:Nat):Prop:=∃e,18≤m∧m≤46∧Dg 256 m e∧dval e m=V%P130∧DigS w' w.heap.size g c m e∧Below w.heap.size w w'
theorem Vw(s:Nat→Int)(n b cp:Nat)(w:World)(hR:RowAt w b .i64 3 n s)(hs:Dg 8796093022208 n s)(hn:n≤41):Calls prog 192 #[.slice (some ⟨b,0,none⟩) n cp] w fun r w'=>∃g c m,r=.returned (.slice (some ⟨g,0,none⟩) m c)∧Aab (dval s n) w w' g c m:=by
 obtain⟨V,HV⟩:∃V,Hid (dval s n=V):=⟨_,Hid.mk rfl⟩;have hV0:0≤V:=by rw[←HV.out];exact Bw (fun i hi=>(hs i hi).1)
 rw[HV.out];have hCar:=fun w (hR:RowAt w b .i64 3 n s)=>G9 s n b cp w hR hs (by omega)
 go_enter func192,ntmps192;go_wp2_with fail;refine(hCar _ hR).mono ?_;rintro r v1 ⟨g,c,m,e,rfl,hC,hO,hb⟩;have hm1:=hC.lo;have hm2:m≤46:=by have:=hC.hi;omega
 have hde:=hC.dg;have hnum:dval e m=V:=by rw[hC.num,HV.out]
 replace hO:DigS v1 w.heap.size g c m e:=hO;clear hC hR hCar;go_wp2_with fail
 go_loopg [0] V.toNat (fun gm xv v=>∃(g c m:Nat) (e:Nat→Int),xv=.slice (some ⟨g,0,none⟩) m c∧Hid ((dval e m).toNat≤gm)∧Hid (dval e m%P130=V%P130)∧18≤m∧m≤46∧Hid (Dg 256 m e)∧DigS v w.heap.size g c m e∧Below w.heap.size w v)
 case atStart=>exact⟨g,c,m,e,rfl,Hid.mk (by rw[hnum];exact Acg _),Hid.mk (by rw[hnum]),hm1,hm2,Hid.mk hde,hO,hb⟩
 case round =>
  clear hm1 hm2 hde hnum hO hb;obtain⟨g,c,m,e,rfl,HG,HP,hm1,hm2,HD,hO,hB⟩:=hrel;obtain⟨hd,HH⟩:∃f,Hid (hid (pad e m)=f):=⟨_,Hid.mk rfl⟩;have hhb:∀j,0≤hd j∧hd j<256:=fun j=>HH.out▸AaV HD.out j
  generalize wr=wo at *;generalize gk=go at *;go_wp2_with fail
  go_loopg [3,4,5] (m-16) (fun gm hv sv iv v=>∃j:Nat,Hid (gm+j=m-16)∧iv=.int .i64 ((16+j:Nat):Int)∧sv=.bool (decide (0<dval hd j))∧v.ownsRow wo.heap.size 3 1 hv j (AC .i64 j hd)∧Below wo.heap.size wo v)
  case atStart=>exact⟨0,Hid.mk (by omega),rfl,by simp[dval],World.ownsRow_nil wo _ _ _,Below.refl _ _⟩
  case round =>
   obtain⟨j,HJ,rfl,rfl,hh,hbw⟩:=hrel;have hjm:j≤m-16:=by have:=HJ.out;omega
   by_cases hjl:j<m-16
   ·have hx:=(hO.below hbw hO.lt).row (by omega)
    have c1:=hx.cell (16+j) (by omega);have d1:=HD.out (16+j) (by omega)
    by_cases hl:17+j<m
    ·have c2:=hx.cell (16+j+1) (by omega)
     have d2:=HD.out (16+j+1) (by omega);have hq:(e (16+j)).tdiv 4=e (16+j)/4:=Ac8 d1.1;have hr:(e (16+j+1)).tmod 4=e (16+j+1)%4:=Acz d2.1
     have hv:e (16+j)/4+e (16+j+1)%4*64=hd j:=by
      rw[←HH.out];unfold hid pad;rw[if_pos (by omega),if_pos (by omega),show 17+j=16+j+1 by omega]
     by_cases hsm:0<dval hd j
     ·have hsd:decide (0<dval hd j)=true:=decide_eq_true hsm
      go_wp2_with (at_builtin;refine Db rfl _ _ 171 3 .i64 8 underlying171 B1 (by decide) (by rfl) (n:=j) (m:=1) (by rfl) (Bp hh ((Below.refl _ wr).alloc (Acg _) _)) (by rfl) (r:=fun _=>hd j) (fun q hq=>by obtain rfl:q=0:=(by omega);exact cell_of_row _ _ 0 _ _ _ (heap_alloc_new wr _)) (by omega) (hbw.alloc hbw.size _).size ?_;intro v2 w2 h2 hb2;refine Hid.out ?_)
      rw[B2 (DV j hd)] at h2;have hb3:=(hbw.alloc hbw.size (.cells #[.int .i64 (hd j)] 3)).trans hb2;clear hb2 hh;refine Hid.mk ?_;go_wp2_with fail
      go_roundg (m-16-(j+1))
      case rel=>exact⟨j+1,Hid.mk (by omega),by go_num,by rw[Ez hd j hhb,hsd];rfl,h2,hb3⟩
      case measure=>have:=HJ.out;omega
     ·have hsd:decide (0<dval hd j)=false:=decide_eq_false hsm
      by_cases hdp:0<hd j
      ·have hdd:decide (0<hd j)=true:=decide_eq_true hdp
       go_wp2_with (at_builtin;refine Db rfl _ _ 171 3 .i64 8 underlying171 B1 (by decide) (by rfl) (n:=j) (m:=1) (by rfl) (Bp hh ((Below.refl _ wr).alloc (Acg _) _)) (by rfl) (r:=fun _=>hd j) (fun q hq=>by obtain rfl:q=0:=(by omega);exact cell_of_row _ _ 0 _ _ _ (heap_alloc_new wr _)) (by omega) (hbw.alloc hbw.size _).size ?_;intro v2 w2 h2 hb2;refine Hid.out ?_)
       rw[B2 (DV j hd)] at h2;have hb3:=(hbw.alloc hbw.size (.cells #[.int .i64 (hd j)] 3)).trans hb2;clear hb2 hh;refine Hid.mk ?_;go_wp2_with fail
       go_roundg (m-16-(j+1))
       case rel=>exact⟨j+1,Hid.mk (by omega),by go_num,by rw[Ez hd j hhb,hsd,hdd];rfl,h2,hb3⟩
       case measure=>have:=HJ.out;omega
      ·have hdd:decide (0<hd j)=false:=decide_eq_false hdp
       go_wp2_with (at_builtin;refine Db rfl _ _ 171 3 .i64 8 underlying171 B1 (by decide) (by rfl) (n:=j) (m:=1) (by rfl) (Bp hh ((Below.refl _ wr).alloc (Acg _) _)) (by rfl) (r:=fun _=>hd j) (fun q hq=>by obtain rfl:q=0:=(by omega);exact cell_of_row _ _ 0 _ _ _ (heap_alloc_new wr _)) (by omega) (hbw.alloc hbw.size _).size ?_;intro v2 w2 h2 hb2;refine Hid.out ?_)
       rw[B2 (DV j hd)] at h2;have hb3:=(hbw.alloc hbw.size (.cells #[.int .i64 (hd j)] 3)).trans hb2;clear hb2 hh;refine Hid.mk ?_;go_wp2_with fail
       go_roundg (m-16-(j+1))
       case rel=>exact⟨j+1,Hid.mk (by omega),by go_num,by rw[Ez hd j hhb,hsd,hdd];rfl,h2,hb3⟩
       case measure=>have:=HJ.out;omega
    ·have hq:(e (16+j)).tdiv 4=e (16+j)/4:=Ac8 d1.1
     have hv:e (16+j)/4=hd j:=by
      rw[←HH.out];unfold hid pad;rw[if_pos (by omega),if_neg (by omega)];omega
     by_cases hsm:0<dval hd j
     ·have hsd:decide (0<dval hd j)=true:=decide_eq_true hsm
      go_wp2_with (at_builtin;refine Db rfl _ _ 171 3 .i64 8 underlying171 B1 (by decide) (by rfl) (n:=j) (m:=1) (by rfl) (Bp hh ((Below.refl _ wr).alloc (Acg _) _)) (by rfl) (r:=fun _=>hd j) (fun q hq=>by obtain rfl:q=0:=(by omega);exact cell_of_row _ _ 0 _ _ _ (heap_alloc_new wr _)) (by omega) (hbw.alloc hbw.size _).size ?_;intro v2 w2 h2 hb2;refine Hid.out ?_)
      rw[B2 (DV j hd)] at h2;have hb3:=(hbw.alloc hbw.size (.cells #[.int .i64 (hd j)] 3)).trans hb2;clear hb2 hh;refine Hid.mk ?_;go_wp2_with fail
      go_roundg (m-16-(j+1))
      case rel=>exact⟨j+1,Hid.mk (by omega),by go_num,by rw[Ez hd j hhb,hsd];rfl,h2,hb3⟩
      case measure=>have:=HJ.out;omega
     ·have hsd:decide (0<dval hd j)=false:=decide_eq_false hsm
      by_cases hdp:0<hd j
      ·have hdd:decide (0<hd j)=true:=decide_eq_true hdp
       go_wp2_with (at_builtin;refine Db rfl _ _ 171 3 .i64 8 underlying171 B1 (by decide) (by rfl) (n:=j) (m:=1) (by rfl) (Bp hh ((Below.refl _ wr).alloc (Acg _) _)) (by rfl) (r:=fun _=>hd j) (fun q hq=>by obtain rfl:q=0:=(by omega);exact cell_of_row _ _ 0 _ _ _ (heap_alloc_new wr _)) (by omega) (hbw.alloc hbw.size _).size ?_;intro v2 w2 h2 hb2;refine Hid.out ?_)
       rw[B2 (DV j hd)] at h2;have hb3:=(hbw.alloc hbw.size (.cells #[.int .i64 (hd j)] 3)).trans hb2;clear hb2 hh;refine Hid.mk ?_;go_wp2_with fail
       go_roundg (m-16-(j+1))
       case rel=>exact⟨j+1,Hid.mk (by omega),by go_num,by rw[Ez hd j hhb,hsd,hdd];rfl,h2,hb3⟩
       case measure=>have:=HJ.out;omega
      ·have hdd:decide (0<hd j)=false:=decide_eq_false hdp
       go_wp2_with (at_builtin;refine Db rfl _ _ 171 3 .i64 8 underlying171 B1 (by decide) (by rfl) (n:=j) (m:=1) (by rfl) (Bp hh ((Below.refl _ wr).alloc (Acg _) _)) (by rfl) (r:=fun _=>hd j) (fun q hq=>by obtain rfl:q=0:=(by omega);exact cell_of_row _ _ 0 _ _ _ (heap_alloc_new wr _)) (by omega) (hbw.alloc hbw.size _).size ?_;intro v2 w2 h2 hb2;refine Hid.out ?_)
       rw[B2 (DV j hd)] at h2;have hb3:=(hbw.alloc hbw.size (.cells #[.int .i64 (hd j)] 3)).trans hb2;clear hb2 hh;refine Hid.mk ?_;go_wp2_with fail
       go_roundg (m-16-(j+1))
       case rel=>exact⟨j+1,Hid.mk (by omega),by go_num,by rw[Ez hd j hhb,hsd,hdd];rfl,h2,hb3⟩
       case measure=>have:=HJ.out;omega
   ·have hj2:j=m-16:=by omega
    subst hj2;clear hjl hjm HJ;have hsp:=Tb e m (by omega) HD.out;rw[HH.out] at hsp;have HSP:=Hid.mk hsp;clear hsp
    by_cases hH:0<dval hd (m-16)
    ·have hsd:decide (0<dval hd (m-16))=true:=decide_eq_true hH
     obtain⟨gh,ch,rfl,hgh,hch,rh⟩:=CU hh (by omega);have hx:=(hO.below hbw hO.lt).row (by omega);have hcap:(17:Int)≤(c:Int):=by have:=hO.cap (by omega);omega
     have hfd:decide ((16:Int)+((m-16:Nat):Int)<(m:Int))=false:=decide_eq_false (by omega);have HX:Hid (∀q,q<17→(wr.alloc (.cells #[] 3)).cell? ⟨g,0+q,none⟩=some (.int .i64 (e q))):=Hid.mk (fun q hq=>by rw[Acl];exact(hx.alloc _).cell q (by omega))
     go_wp2_with (at_builtin;refine I3 rfl _ _ 171 3 .i64 8 underlying171 B1 (by decide) (by rfl) (n:=0) (m:=17) (f:=e) (by rfl) (fun q hq=>by omega) (by rfl) (r:=e) HX.out (by decide) (by decide) ?_;intro va v2 h2 hb2;refine Hid.out ?_)
     clear HX;rw[B2 (s:=cat 0 e e) (t:=e) (fun i _=>by simp[cat])] at h2;obtain⟨gy,cy,rfl,hgy,hcy,ry⟩:=CU h2 (by decide);have hsz:(wr.alloc (.cells #[] 3)).heap.size=wr.heap.size+1:=by simp
     rw[hsz] at h2 hgy;replace h2:DigS v2 (wr.heap.size+1) gy cy 17 e:=h2;have rh2:RowAt v2 gh .i64 3 (m-16) hd:=(rh.alloc _).below hb2 (by rw[hsz];have:=rh.lt;omega);have hzh:gh<wr.heap.size:=rh.lt;have hB2:Below w.heap.size w v2:=((hB.trans (hbw.mono hB.size)).alloc (by have:=hB.size;have:=hbw.size;omega) _).trans (hb2.mono (by rw[hsz];have:=hB.size;have:=hbw.size;omega));clear hb2 ry rh hh hx hO hbw;have hzw:w.heap.size≤wr.heap.size:=by have:=hB.size;omega
     refine Hid.mk ?_;simp only[Acl];have c16:=(h2.row (by decide)).cell 16 (by decide);have f16:=(h2.row (by decide)).free 16 (by decide);have d16:=HD.out 16 (by omega);have hr16:(e 16).tmod 4=e 16%4:=Acz d16.1;go_wp2_with fail;obtain⟨By,hBy⟩:∃B,wr.heap.size+1=B:=⟨_,rfl⟩;rw[hBy] at h2 hgy;have hghB:gh<By:=by omega
     have hwB:w.heap.size≤By:=by omega
     obtain⟨LO,HLO⟩:∃L,Hid (dval e 16+340282366920938463463374607431768211456*(pad e m 16%4)=L):=⟨_,Hid.mk rfl⟩;rw[HLO.out] at HSP;have h3:=N7 h2 16 (e 16%4) (by decide);have rh3:=rh2.other (g:=gy) (i:=16) (.int .i64 (e 16%4)) (by omega);have hB3:=Below.setCell hB2 (p:=⟨gy,16,none⟩) (by simp;omega) (.int .i64 (e 16%4))
     have HD3:Hid (dval (upd e 16 (e 16%4)) 17=LO+5*dval hd 0):=Hid.mk (by
      rw[EP (by decide),←HLO.out];show dval e 16+256 ^ 16*e 16+256 ^ 16*(e 16%4-e 16)=_;rw[show pad e m 16=e 16 from by unfold pad;rw[if_pos (by omega)],JS];simp only[dval];omega)
     have HE1:Hid (∀i,i<17→0≤upd e 16 (e 16%4) i∧upd e 16 (e 16%4) i<256):=Hid.mk (fun i hi=>by
      unfold upd
      split
      ·omega
      ·exact HD.out i (by omega))
     generalize v2.setCell ⟨gy,16,none⟩ (.int .i64 (e 16%4))=v3 at *;generalize wr=wq at *;generalize gk=gq at *
     go_loopg [7,8] (m-16) (fun gm yv iv v=>∃(j L:Nat) (t:Nat→Int) (gy cy:Nat),Hid (gm+j=m-16)∧yv=.slice (some ⟨gy,0,none⟩) L cy∧iv=.int .i64 (j:Int)∧Hid (L=max 17 j)∧DigS v By gy cy L t∧Hid (∀i,i<L→0≤t i∧t i<2000)∧Hid (∀i,j≤i→i<L→t i<256)∧Hid (dval t L=LO+5*dval hd j)∧RowAt v gh .i64 3 (m-16) hd∧Below w.heap.size w v)
     case atStart=>exact⟨0,17,_,gy,cy,Hid.mk (by omega),rfl,rfl,Hid.mk (by omega),h3,Hid.mk (fun i hi=>by have:=HE1.out i hi;omega),Hid.mk (fun i _ hi=>(HE1.out i hi).2),HD3,rh3,hB3⟩
     case round =>
      clear h3 rh3 hB3 HD3 HE1 h2 rh2 hB2 c16 f16 d16 hr16 hgy hcy;obtain⟨j,L,t,gy,cy,HJ,rfl,rfl,HL,hD,H1,H2,H3,rh,hB3⟩:=hrel;have hLL:=HL.out;have hjm:j≤m-16:=by have:=HJ.out;omega
      by_cases hjl:j<m-16
      ·by_cases h17:j<17
       ·have hL17:L=max 17 (j+1):=by omega
        have cyj:=(hD.row (by omega)).cell j (by omega);have fyj:=(hD.row (by omega)).free j (by omega);have chj:=rh.cell j hjl;have hhj:=hhb j;have htj:=H1.out j (by omega);have ht5:t j<256:=H2.out j (Acg _) (by omega)
        have HN:Hid (dval (upd t j (t j+5*hd j)) L=LO+5*dval hd (j+1)):=Hid.mk (by
         rw[EP (by omega),H3.out];show LO+5*dval hd j+256 ^ j*(t j+5*hd j-t j)=LO+5*(dval hd j+256 ^ j*hd j);rw[show t j+5*hd j-t j=5*hd j by omega,Acw,←Acn 5,Acy 5 (256 ^ j),Acn];omega)
        have HB1:Hid (∀i,i<L→0≤upd t j (t j+5*hd j) i∧upd t j (t j+5*hd j) i<2000):=Hid.mk (fun i hi=>by
         unfold upd
         split
         ·omega
         ·exact H1.out i hi)
        have HB2:Hid (∀i,j+1≤i→i<L→upd t j (t j+5*hd j) i<256):=Hid.mk (fun i h1 h2=>by
         unfold upd;rw[if_neg (by omega)];exact H2.out i (by omega) h2)
        have hlj:(j:Int)<(L:Int):=by omega
        have hlh:(j:Int)<((m-16:Nat):Int):=by omega
        have hgyb:=hD.base;generalize hx5:t j=x5 at *;generalize hx6:hd j=x6 at *;go_wp2_with fail
        go_region
        go_wp2_with fail
        go_roundg (m-16-(j+1))
        case rel=>exact⟨j+1,L,_,gy,cy,Hid.mk (by omega),rfl,by go_num,Hid.mk (by omega),N7 hD j _ (by omega),HB1,HB2,HN,rh.other _ (by omega),(Below.setCell hB3 (p:=⟨gy,j,none⟩) (by simp;omega) _).drew⟩
        case measure=>have:=HJ.out;omega
       ·have hLj:L=j:=by omega
        have HA1:Hid (∀i,i<L+1→0≤cat L t (fun _=>0) i∧cat L t (fun _=>0) i<2000):=Hid.mk (fun i hi=>by
         unfold cat
         split
         ·exact H1.out i (by assumption)
         ·show 0≤(0:Int)∧(0:Int)<2000
          omega)
        have HA2:Hid (∀i,j≤i→i<L+1→cat L t (fun _=>0) i<256):=Hid.mk (fun i h1 h2=>by
         unfold cat;rw[if_neg (by omega)];show (0:Int)<256;omega)
        have HA3:Hid (dval (cat L t (fun _=>0)) (L+1)=LO+5*dval hd j):=Hid.mk (by
         show dval (cat L t (fun _=>0)) L+256 ^ L*cat L t (fun _=>0) L=_;rw[BW (Ee L t 0).1,(Ee L t 0).2,H3.out];omega)
        have hlt0:=hD.lt;have hbs0:=hD.base;have hge:(L:Int)≤(j:Int):=by omega
        go_wp2_with (at_builtin;refine Db rfl _ _ 171 3 .i64 8 underlying171 B1 (by decide) (by rfl) (n:=L) (m:=1) (by rfl) (Bp hD ((Below.refl _ wr).alloc (Acg _) _)) (by rfl) (r:=fun _=>0) (fun q hq=>by obtain rfl:q=0:=(by omega);exact cell_of_row _ _ 0 _ _ _ (heap_alloc_new wr _)) (by omega) (by simp;omega) ?_;intro vb w2 h4 hb4;refine Hid.out ?_)
        obtain⟨gz,cz,rfl,hgz,hcz,rz⟩:=CU h4 (by omega);replace h4:DigS w2 By gz cz (L+1) (cat L t (fun _=>0)):=h4;have rh4:RowAt w2 gh .i64 3 (m-16) hd:=(rh.alloc _).below hb4 hghB;have hB4:Below w.heap.size w w2:=(hB3.alloc hB3.size _).trans (hb4.mono hwB);clear hb4 rz hgz hcz hD rh hB3 hlt0 hbs0 hge;refine Hid.mk ?_;have hL17:L+1=max 17 (j+1):=by omega
        generalize cat L t (fun _=>0)=t2 at *;generalize hL2:L+1=L2 at *;have cyj:=(h4.row (by omega)).cell j (by omega);have fyj:=(h4.row (by omega)).free j (by omega);have chj:=rh4.cell j hjl;have hhj:=hhb j;have htj:=HA1.out j (by omega);have ht5:t2 j<256:=HA2.out j (Acg _) (by omega)
        have HN:Hid (dval (upd t2 j (t2 j+5*hd j)) L2=LO+5*dval hd (j+1)):=Hid.mk (by
         rw[EP (by omega),HA3.out];show LO+5*dval hd j+256 ^ j*(t2 j+5*hd j-t2 j)=LO+5*(dval hd j+256 ^ j*hd j);rw[show t2 j+5*hd j-t2 j=5*hd j by omega,Acw,←Acn 5,Acy 5 (256 ^ j),Acn];omega)
        have HB1:Hid (∀i,i<L2→0≤upd t2 j (t2 j+5*hd j) i∧upd t2 j (t2 j+5*hd j) i<2000):=Hid.mk (fun i hi=>by
         unfold upd
         split
         ·omega
         ·exact HA1.out i hi)
        have HB2:Hid (∀i,j+1≤i→i<L2→upd t2 j (t2 j+5*hd j) i<256):=Hid.mk (fun i h1 h2=>by
         unfold upd;rw[if_neg (by omega)];exact HA2.out i (by omega) h2)
        have hlj:(j:Int)<(L2:Int):=by omega
        have hlh:(j:Int)<((m-16:Nat):Int):=by omega
        have hgyb:=h4.base;generalize hx5:t2 j=x5 at *;generalize hx6:hd j=x6 at *;go_wp2_with fail
        go_region
        go_wp2_with fail
        go_roundg (m-16-(j+1))
        case rel=>exact⟨j+1,L2,_,gz,cz,Hid.mk (by omega),rfl,by go_num,Hid.mk (by omega),N7 h4 j _ (by omega),HB1,HB2,HN,rh4.other _ (by omega),(Below.setCell hB4 (p:=⟨gz,j,none⟩) (by simp;omega) _).drew⟩
        case measure=>have:=HJ.out;omega
      ·have hj2:j=m-16:=by omega
       rw[hj2] at H3;have HQ:=H3;have hL30:L≤30:=by omega
       have hL17:17≤L:=by omega
       have hdc:=fun w (hR:RowAt w gy .i64 3 L t)=>G9 t L gy cy w hR (fun i hi=>by have:=H1.out i hi;omega) (by omega)
       have hge:¬((j:Int)<((m-16:Nat):Int)):=by omega
       clear hLL hj2 hjl hjm;go_wp2_with fail;refine(hdc _ (hD.row (by omega))).mono ?_;rintro r v5 ⟨g5,c5,m5,e5,rfl,hC5,hO5,hb5⟩;have hB5:=hB3.trans (hb5.mono hB3.size);have hz5:w.heap.size≤wr.heap.size:=hB3.size;have hn5:dval e5 m5=LO+5*dval hd (m-16):=by rw[hC5.num,HQ.out]
       have hv5:=HSP.out;have hO6:DigS v5 w.heap.size g5 c5 m5 e5:=Ys hO5 hz5
       have HG5:Hid ((LO+5*dval hd (m-16)).toNat<go):=Hid.mk (by
        have h1:=HG.out;have h2:=hv5.1;have h3:=hv5.2.1;unfold CL at h2;omega)
       have HP5:Hid ((LO+5*dval hd (m-16))%P130=V%P130):=Hid.mk (by
        rw[←HP.out,hv5.1];unfold CL P130;omega)
       have hm5:=hC5.lo;have hm6:m5≤46:=by have:=hC5.hi;omega
       have HD5:=Hid.mk hC5.dg;have HN5:=Hid.mk hn5;clear hv5 hn5 hC5 hb5 hO5 hdc;go_wp2_with fail
       go_roundg ((LO+5*dval hd (m-16)).toNat)
       case rel=>exact⟨g5,c5,m5,e5,rfl,Hid.mk (by rw[HN5.out];exact Acg _),Hid.mk (by rw[HN5.out];exact HP5.out),hm5,hm6,HD5,hO6,hB5⟩
       case measure=>exact HG5.out
    ·have hsd:decide (0<dval hd (m-16))=false:=decide_eq_false hH
     have hX:=HSP.out;have hnn:=Bw (s:=hd) (n:=m-16) (fun i _=>(hhb i).1)
     have hXl:dval e m<CL:=by
      have h1:=hX.1;rw[show dval hd (m-16)=0 by omega] at h1;have h2:=hX.2.2;omega
     have hX0:0≤dval e m:=Bw (fun i hi=>(HD.out i hi).1);have HI:=Hid.mk (Tc hm1 HD.out hXl);have HW:=Hid.mk (fun h1 h3=>Td hm1 HD.out hXl h1 h3);have HXL:=Hid.mk hXl;have hbo:=hB.trans (hbw.mono hB.size);replace hO:=hO.below hbw hO.lt;clear hX hnn hXl hbw hh HSP hH;have hxr:=hO.row (by omega);have c16:=hxr.cell 16 (by omega);have c0:=hxr.cell 0 (by omega);have hfd:decide ((16:Int)+((m-16:Nat):Int)<(m:Int))=false:=decide_eq_false (by omega);generalize wr=wq at *;generalize gk=gq at *
     by_cases h163:e 16=3
     ·by_cases h251:251≤e 0
      ·have h251b:=h251
       go_wp2_with fail
       go_loopg [9,10] 15 (fun gm lv iv v=>∃i:Nat,Hid (gm+i=15)∧lv=.bool (lst e i)∧iv=.int .i64 ((i+1:Nat):Int)∧v=wq)
       case atStart=>exact⟨0,Hid.mk rfl,by unfold lst;rw[decide_eq_true h163,decide_eq_true (show 251≤e 0 by omega)];rfl,rfl,rfl⟩
       case round =>
        obtain⟨i,HI2,rfl,rfl,rfl⟩:=hrel;have hi15:i≤15:=by have:=HI2.out;omega
        by_cases hil:i<15
        ·have ci:=hxr.cell (i+1) (by omega)
         have hil2:(i:Int)+1<16:=by omega
         cases hls:lst e i with
         | false =>
          have HS:Hid (Value.bool false=.bool (lst e (i+1))):=Hid.mk (by unfold lst;rw[hls];rfl);go_wp2_with fail
          go_roundg (15-(i+1))
          case rel=>exact⟨i+1,Hid.mk (by omega),HS.out,by go_num,rfl⟩
          case measure=>have:=HI2.out;omega
         | true =>
          by_cases h255:e (i+1)=255
          ·have HS:Hid (Value.bool true=.bool (lst e (i+1))):=Hid.mk (by unfold lst;rw[hls,decide_eq_true h255];rfl)
           go_wp2_with fail
           go_roundg (15-(i+1))
           case rel=>exact⟨i+1,Hid.mk (by omega),HS.out,by go_num,rfl⟩
           case measure=>have:=HI2.out;omega
          ·have HS:Hid (Value.bool false=.bool (lst e (i+1))):=Hid.mk (by unfold lst;rw[hls,decide_eq_false h255];rfl)
           have hbe:(e (i+1)==255)=false:=by simpa using h255
           go_wp2_with fail
           go_roundg (15-(i+1))
           case rel=>exact⟨i+1,Hid.mk (by omega),HS.out,by go_num,rfl⟩
           case measure=>have:=HI2.out;omega
        ·have hi2:i=15:=by omega
         subst hi2
         cases hls:lst e 15 with
         | false =>
          have HR:Hid (dval e m=V%P130):=Hid.mk (by
           have h1:¬P130≤dval e m:=fun h=>by
            have:=HI.out.2 h;rw[(FQ e 15).2 this] at hls;cases hls
           rw[←HP.out,AcN hX0 (by omega)])
          go_wp2_with fail
          go_ret
          exact⟨g,c,m,rfl,e,hm1,hm2,HD.out,HR.out,hO,hbo⟩
         | true =>
          have hall:=(FQ e 15).1 hls
          have HR:Hid (e 0-251=V%P130):=Hid.mk (by
           have h1:=HW.out hall.1 hall.2.2;have h2:=HXL.out;rw[←HP.out,h1];have h3:CL-256+e 0=(e 0-251)+P130:=by unfold CL P130;omega
           rw[h3,Int.add_emod_right,AcN (by omega) (by unfold P130;have:=HD.out 0 (by omega);omega)])
          have he0:251≤e 0:=hall.2.1;have he1:=(HD.out 0 (by omega)).2;have hmk:=AaW wr;have G:ArrAt (wr.alloc (.cells (WA .i64 18 fun _=>0) 3)) wr.heap.size .i64 3 18 (fun _=>0):=heap_alloc_new wr _;have cz:=G.cell 0 (by decide);have fz:=G.free 0;have cx0:=(hxr.alloc (.cells (WA .i64 18 fun _=>0) 3)).cell 0 (by omega);have G2:=Hid.mk (Yt (B:=w.heap.size) (G.set 0 (e 0-251) (by decide)) hbo.size (by decide))
          have HV2:Hid (dval (upd (fun _=>0) 0 (e 0-251)) 18=V%P130):=Hid.mk (by
           rw[EP (by decide),←HR.out,show dval (fun _=>0) 18=0 by decide];simp)
          have HB2:=Hid.mk (Below.setCell (hbo.alloc hbo.size (.cells (WA .i64 18 fun _=>0) 3)) (p:=⟨wr.heap.size,0,none⟩) hbo.size (.int .i64 (e 0-251)));clear hall G;generalize wr.alloc (.cells (WA .i64 18 fun _=>0) 3)=wz at *;go_wp2_with fail
          go_ret
          exact⟨_,18,18,rfl,_,by omega,by omega,fun i hi=>by unfold upd;dsimp only;split<;>omega,HV2.out,G2.out,HB2.out⟩
      ·have h251b:e 0<251:=by omega
       go_wp2_with fail
       go_loopg [9,10] 15 (fun gm lv iv v=>∃i:Nat,Hid (gm+i=15)∧lv=.bool (lst e i)∧iv=.int .i64 ((i+1:Nat):Int)∧v=wq)
       case atStart=>exact⟨0,Hid.mk rfl,by unfold lst;rw[decide_eq_false (show ¬251≤e 0 by omega),Bool.and_false],rfl,rfl⟩
       case round =>
        obtain⟨i,HI2,rfl,rfl,rfl⟩:=hrel;have hi15:i≤15:=by have:=HI2.out;omega
        by_cases hil:i<15
        ·have ci:=hxr.cell (i+1) (by omega)
         have hil2:(i:Int)+1<16:=by omega
         cases hls:lst e i with
         | false =>
          have HS:Hid (Value.bool false=.bool (lst e (i+1))):=Hid.mk (by unfold lst;rw[hls];rfl);go_wp2_with fail
          go_roundg (15-(i+1))
          case rel=>exact⟨i+1,Hid.mk (by omega),HS.out,by go_num,rfl⟩
          case measure=>have:=HI2.out;omega
         | true =>
          by_cases h255:e (i+1)=255
          ·have HS:Hid (Value.bool true=.bool (lst e (i+1))):=Hid.mk (by unfold lst;rw[hls,decide_eq_true h255];rfl)
           go_wp2_with fail
           go_roundg (15-(i+1))
           case rel=>exact⟨i+1,Hid.mk (by omega),HS.out,by go_num,rfl⟩
           case measure=>have:=HI2.out;omega
          ·have HS:Hid (Value.bool false=.bool (lst e (i+1))):=Hid.mk (by unfold lst;rw[hls,decide_eq_false h255];rfl)
           have hbe:(e (i+1)==255)=false:=by simpa using h255
           go_wp2_with fail
           go_roundg (15-(i+1))
           case rel=>exact⟨i+1,Hid.mk (by omega),HS.out,by go_num,rfl⟩
           case measure=>have:=HI2.out;omega
        ·have hi2:i=15:=by omega
         subst hi2
         cases hls:lst e 15 with
         | false =>
          have HR:Hid (dval e m=V%P130):=Hid.mk (by
           have h1:¬P130≤dval e m:=fun h=>by
            have:=HI.out.2 h;rw[(FQ e 15).2 this] at hls;cases hls
           rw[←HP.out,AcN hX0 (by omega)])
          go_wp2_with fail
          go_ret
          exact⟨g,c,m,rfl,e,hm1,hm2,HD.out,HR.out,hO,hbo⟩
         | true =>
          have hall:=(FQ e 15).1 hls;exact absurd hall.2.1 (by omega)
     ·have h163b:=h163
      go_wp2_with fail
      go_loopg [9,10] 15 (fun gm lv iv v=>∃i:Nat,Hid (gm+i=15)∧lv=.bool (lst e i)∧iv=.int .i64 ((i+1:Nat):Int)∧v=wq)
      case atStart=>exact⟨0,Hid.mk rfl,by unfold lst;rw[decide_eq_false h163];rfl,rfl,rfl⟩
      case round =>
       obtain⟨i,HI2,rfl,rfl,rfl⟩:=hrel;have hi15:i≤15:=by have:=HI2.out;omega
       by_cases hil:i<15
       ·have ci:=hxr.cell (i+1) (by omega)
        have hil2:(i:Int)+1<16:=by omega
        cases hls:lst e i with
        | false =>
         have HS:Hid (Value.bool false=.bool (lst e (i+1))):=Hid.mk (by unfold lst;rw[hls];rfl);go_wp2_with fail
         go_roundg (15-(i+1))
         case rel=>exact⟨i+1,Hid.mk (by omega),HS.out,by go_num,rfl⟩
         case measure=>have:=HI2.out;omega
        | true =>
         by_cases h255:e (i+1)=255
         ·have HS:Hid (Value.bool true=.bool (lst e (i+1))):=Hid.mk (by unfold lst;rw[hls,decide_eq_true h255];rfl)
          go_wp2_with fail
          go_roundg (15-(i+1))
          case rel=>exact⟨i+1,Hid.mk (by omega),HS.out,by go_num,rfl⟩
          case measure=>have:=HI2.out;omega
         ·have HS:Hid (Value.bool false=.bool (lst e (i+1))):=Hid.mk (by unfold lst;rw[hls,decide_eq_false h255];rfl)
          have hbe:(e (i+1)==255)=false:=by simpa using h255
          go_wp2_with fail
          go_roundg (15-(i+1))
          case rel=>exact⟨i+1,Hid.mk (by omega),HS.out,by go_num,rfl⟩
          case measure=>have:=HI2.out;omega
       ·have hi2:i=15:=by omega
        subst hi2
        cases hls:lst e 15 with
        | false =>
         have HR:Hid (dval e m=V%P130):=Hid.mk (by
          have h1:¬P130≤dval e m:=fun h=>by
           have:=HI.out.2 h;rw[(FQ e 15).2 this] at hls;cases hls
          rw[←HP.out,AcN hX0 (by omega)])
         go_wp2_with fail
         go_ret
         exact⟨g,c,m,rfl,e,hm1,hm2,HD.out,HR.out,hO,hbo⟩
        | true =>
         have hall:=(FQ e 15).1 hls;exact absurd hall.1 h163
def Cm(key:Nat→Int)(i:Nat):Int:=if i%4=3 then key i%16 else if 0<i∧i%4=0 then key i/4*4 else key i
def rN(key:Nat→Int):Int:=dval (Cm key) 16
def sN(key:Nat→Int):Int:=dval (fun i=>key (16+i)) 16
theorem KP{key:Nat→Int}(hk:Byts 32 key):Dg 256 16 (Cm key):=fun i hi=>by
 have:=hk i (by omega);unfold Cm
 split
 ·omega
 ·split<;>omega
def N8(f:Nat→Int)(at' n:Nat):Int:=dval (fun i=>f (at' + i)) n+256 ^ n
def accN(r:Int)(f:Nat→Int)(L:Nat):Nat→Int
 | 0=>0
 | k+1=>(accN r f L k+N8 f (16*k) (min 16 (L-16*k)))*r%P130
theorem Aac(r:Int)(f:Nat→Int)(L k:Nat):0≤accN r f L k∧accN r f L k<P130:=by
 cases k with
 | zero =>
  refine⟨Int.le_refl _,?_⟩;show (0:Int)<P130;unfold P130;decide
 | succ k=>exact⟨Int.emod_nonneg _ (by unfold P130;decide),Int.emod_lt_of_pos _ (by unfold P130;decide)⟩
def Dh(key:Nat→Int)(f:Nat→Int)(L:Nat):Int:=(accN (rN key) f L ((L+15)/16)+sN key)%340282366920938463463374607431768211456
def AM(X:Int)(i:Nat):Int:=X/256 ^ i%256
theorem Ej(X:Int)(i:Nat):0≤AM X i∧AM X i<256:=by unfold AM;omega
theorem Aad{e:Nat→Int}:∀{m:Nat},Dg 256 m e→∀i,i<m→e i=AM (dval e m) i
 | 0,_,i,h=>by omega
 | m+1,he,i,h=>by
  have hs:=Df e i (m+1-i);rw[show i+(m+1-i)=m+1 by omega] at hs;have h1:=Bw (s:=e) (n:=i) (fun j hj=>(he j (by omega)).1);have h2:=Hf (s:=e) (n:=i) (fun j hj=>he j (by omega));have h3:=Df (fun j=>e (i+j)) 1 (m-i);rw[show 1+(m-i)=m+1-i by omega] at h3;have h4:dval (fun j=>e (i+j)) 1=e i:=by simp[dval]
  rw[h4] at h3;unfold AM;rw[hs,AcS _ _ (Int.ne_of_gt (G8 i)),Int.ediv_eq_zero_of_lt h1 h2,Int.zero_add,h3];have h5:=he i h;simp only[Acr,Int.pow_zero,Int.one_mul];omega
theorem Te{e:Nat→Int}{m:Nat}(hm:17≤m)(he:Dg 256 m e)(hX:dval e m<CL):dval e m=dval e 17∧∀i,17≤i→i<m→e i=0:=by
 have key:∀i,17≤i→i<m→e i=0:=fun i h1 h2=>by
  have h3:=GA (s:=e) (fun j hj=>(he j hj).1) h2;have h4:=he i h2
  rcases Int.lt_or_le 0 (e i) with h | h
  ·exfalso
   have h5:(256:Int) ^ 17≤256 ^ i:=by
    obtain⟨d,hd⟩:∃d,i=17+d:=⟨i-17,by omega⟩;rw[hd,Ac2];have:=G8 d;have h6:(256:Int) ^ 17*1≤256 ^ 17*256 ^ d:=Ac9 (by omega) (by decide);omega
   have h6:(256:Int) ^ i*1≤256 ^ i*e i:=Ac9 (by omega) (Ac4 (G8 i));have h7:(256:Int) ^ 17=87112285931760246646623899502532662132736:=by decide
   unfold CL at hX;omega
  ·omega
 exact⟨D6 hm (fun i h1 h2=>key i h1 h2),key⟩
theorem KQ{s:Nat→Int}{i n:Nat}{v:Int}(h:i<n):dval (upd s i (s i+v)) n=dval s n+256 ^ i*v:=by
 rw[EP h,show s i+v-s i=v by omega]
def DM(s g:Nat→Int)(j:Nat)(i:Nat):Int:=if i<j then s i+g i else s i
theorem J4(s g:Nat→Int)(j:Nat):upd (DM s g j) j (DM s g j j+g j)=DM s g (j+1):=by
 funext i
 unfold upd DM
 by_cases e:i=j
 ·subst e;simp
 ·rw[if_neg e]
  by_cases h:i<j
  ·rw[if_pos h,if_pos (by omega)]
  ·rw[if_neg h,if_neg (by omega)]
theorem J5{s g:Nat→Int}:∀{j n:Nat},j≤n→dval (DM s g j) n=dval s n+dval g j
 | 0,n,_=>by rw[BW (t:=s) (fun i _=>by unfold DM;rw[if_neg (by omega)])];simp[dval]
 | j+1,n,h=>by
  rw[←J4,KQ (by omega),J5 (by omega)];show _=dval s n+(dval g j+256 ^ j*g j);omega
theorem mkI(n:Nat)(hn:n≤1000000)(h:madeCells #[Value.int .i64 0] n=WA .i64 n (fun _=>0))(w:World):(Instr.makeSlice 171 (.int .i64 (n:Int)) (.int .i64 (n:Int))).run prog w=.ok (.slice (some ⟨w.heap.size,0,none⟩) n n) (w.alloc (.cells (WA .i64 n fun _=>0) 3)):=by
 have h1:=run_make_row' (P:=prog) 171 3 (.int .i64 0) 8 underlying171 B1 rfl .i64 .i64 n (by omega) (by omega) w;rw[h] at h1;exact h1
theorem Aae(w:World):(Instr.makeSlice 171 (.int .i64 16) (.int .i64 16)).run prog w=.ok (.slice (some ⟨w.heap.size,0,none⟩) 16 16) (w.alloc (.cells (WA .i64 16 fun _=>0) 3)):=mkI 16 (by decide) (by kernel_rfl) w
theorem AbR(w:World):(Instr.makeSlice 171 (.int .i64 40) (.int .i64 40)).run prog w=.ok (.slice (some ⟨w.heap.size,0,none⟩) 40 40) (w.alloc (.cells (WA .i64 40 fun _=>0) 3)):=mkI 40 (by decide) (by kernel_rfl) w
theorem N9{ops:Array Oper}{rest:List Oper}{d:Option Tmp}{t:TypeId}{ps:String}{af:Array Edge}{a:Act}{w:World}{Q:Exit→Act→World→Prop}{n:Nat}(hr:(Instr.makeSlice 171 (.int .i64 (n:Int)) (.int .i64 (n:Int))).run prog w=.ok (.slice (some ⟨w.heap.size,0,none⟩) n n) (w.alloc (.cells (WA .i64 n fun _=>0) 3)))(h:∀w2,ArrAt w2 w.heap.size .i64 3 n (fun _=>0)→Below w.heap.size w w2→w2.heap.size=w.heap.size+1→wpList prog ops Q rest (a.put d (.slice (some ⟨w.heap.size,0,none⟩) n n)) w2):wpList prog ops Q ({ dst:=d,op:=.makeSlice 171 (.const (.int .i64 (n:Int))) (.const (.int .i64 (n:Int))),type:=t,pos:=ps,after:=af,guard:=none }::rest) a w:=by
 refine CZ rfl ?_;unfold Oper.wp execOp;simp only[Act.eval,Sem.run_bind,hr,Result.andThen_ok,Sem.run_pure,Oper.upon];exact h _ (heap_alloc_new w _) ((Below.refl _ _).alloc (Acg _) _) (by simp)
def MI(key:Nat→Int)(i j:Nat):Int:=if j<i then Cm key j else 0
theorem FR(key:Nat→Int)(i:Nat)(v:Int)(h:v=Cm key i):upd (MI key i) i v=MI key (i+1):=by
 subst h
 funext j
 unfold upd MI
 by_cases e:j=i
 ·subst e;simp
 ·rw[if_neg e]
  by_cases h:j<i
  ·rw[if_pos h,if_pos (by omega)]
  ·rw[if_neg h,if_neg (by omega)]
theorem Vx(X:Int)(i:Nat)(h:i<16):AM (X%340282366920938463463374607431768211456) i=AM X i:=by
 unfold AM
 have e:(340282366920938463463374607431768211456:Int)=256 ^ i*(256*256 ^ (15-i)):=by
  rw[←JS,←Acn,Acn,show (256:Int)*256 ^ (15-i)=256 ^ (16-i) from by rw[show 16-i=(15-i)+1 by omega,Acr,Acy],←Ac2];congr 1;omega
 have h1:X%340282366920938463463374607431768211456=X-340282366920938463463374607431768211456*(X/340282366920938463463374607431768211456):=by omega
 generalize X/340282366920938463463374607431768211456=Y at h1;rw[h1,e,Acn,show X-256 ^ i*(256*256 ^ (15-i)*Y)=X+256 ^ i*(-(256*256 ^ (15-i)*Y)) by rw[Int.mul_neg];omega,AcS _ _ (Int.ne_of_gt (G8 i)),Acn];omega
theorem Tf(z h r:Nat→Int)(R:Int)(i k:Nat)(hik:i+k<40)(hz:dval z 40=dval h i*R+256 ^ i*(h i*dval r k)):dval (upd z (i+k) (z (i+k)+h i*r k)) 40=dval h i*R+256 ^ i*(h i*dval r (k+1)):=by
 rw[KQ hik,hz];show dval h i*R+256 ^ i*(h i*dval r k)+256 ^ (i+k)*(h i*r k)=dval h i*R+256 ^ i*(h i*(dval r k+256 ^ k*r k));rw[Acw,Acw,Ac2,Acn,←Acn (256 ^ k),Acy (256 ^ k) (h i),Acn];omega
theorem Vy(h r:Nat→Int)(i:Nat):dval h i*dval r 16+256 ^ i*(h i*dval r 16)=dval h (i+1)*dval r 16:=by
 show _=(dval h i+256 ^ i*h i)*dval r 16;rw[Int.add_mul,Acn]
theorem Aaf{n:Int}(h:0≤n∧n<256)(w:World):(convert 5 3 (.int .u8 n)).run prog w=.ok (.int .i64 n) w:=by
 simp[go_sem,Cg (n:=n) (by omega) (by omega)]
def qv(s:Nat→Int):Nat→Int
 | 0=>0
 | n+1=>qv s n+67108864 ^ n*s n
theorem O6{s t:Nat→Int}:∀{n:Nat},(∀i,i<n→s i=t i)→qv s n=qv t n
 | 0,_=>rfl
 | n+1,h=>by unfold qv;rw[O6 (fun i hi=>h i (by omega)),h n (by omega)]
theorem Vz{s:Nat→Int}{i:Nat}{v:Int}:∀{n:Nat},i<n→qv (upd s i v) n=qv s n+67108864 ^ i*(v-s i)
 | 0,h=>by omega
 | n+1,h=>by
  unfold qv
  by_cases e:i=n
  ·subst e
   rw[O6 (t:=s) (fun j hj=>by unfold upd;rw[if_neg (by omega)])];unfold upd;rw[if_pos rfl,Int.mul_sub];omega
  ·rw[Vz (by omega)]
   unfold upd;rw[if_neg (fun h=>e h.symm)];omega
theorem NA{s:Nat→Int}{i n:Nat}{v:Int}(h:i<n):qv (upd s i (s i+v)) n=qv s n+67108864 ^ i*v:=by
 rw[Vz h,show s i+v-s i=v by omega]
theorem O7(s:Nat→Int)(a:Nat):∀(n:Nat),qv s (a+n)=qv s a+67108864 ^ a*qv (fun j=>s (a+j)) n
 | 0=>by simp[qv]
 | n+1=>by
  show qv s (a+n)+67108864 ^ (a+n)*s (a+n)=qv s a+67108864 ^ a*(qv (fun j=>s (a+j)) n+67108864 ^ n*s (a+n));rw[O7 s a n,Acw,Ac2,Acn];omega
theorem qv5(s:Nat→Int):qv s 5=s 0+67108864*s 1+4503599627370496*s 2+302231454903657293676544*s 3+20282409603651670423947251286016*s 4:=by
 simp only[qv,AcA,Int.pow_zero,Int.one_mul];omega
def cc(x:Nat→Int):Nat→Int
 | 0=>0
 | i+1=>(x i+cc x i)/67108864
def cd(x:Nat→Int)(i:Nat):Int:=(x i+cc x i)%67108864
theorem Ig(x:Nat→Int)(i:Nat):0≤cd x i∧cd x i<67108864:=by unfold cd;omega
theorem Th{x:Nat→Int}{n:Nat}(hx:Dg 9223372036854775808 n x):∀i,i≤n→0≤cc x i∧cc x i<274877906944
 | 0,_=>by simp[cc]
 | i+1,h=>by
  have ih:=Th hx i (by omega);have h1:=hx i (by omega);show 0≤(x i+cc x i)/67108864∧(x i+cc x i)/67108864<274877906944;omega
theorem V5(x:Nat→Int):∀n,qv (cd x) n+67108864 ^ n*cc x n=qv x n
 | 0=>by simp[qv,cc]
 | n+1=>by
  have ih:=V5 x n;show qv (cd x) n+67108864 ^ n*cd x n+67108864 ^ (n+1)*((x n+cc x n)/67108864)=qv x n+67108864 ^ n*x n;have e:cd x n+67108864*((x n+cc x n)/67108864)=x n+cc x n:=by unfold cd;omega
  rw[Acr,Acn];generalize (x n+cc x n)/67108864=q at *;have e2:(67108864:Int) ^ n*(cd x n+67108864*q)=67108864 ^ n*(x n+cc x n):=by rw[e]
  rw[Acw,Acw] at e2;omega
theorem q5:(67108864:Int) ^ 5=CL:=by decide
theorem AaX(x:Nat→Int):0≤qv (cd x) 5∧qv (cd x) 5<CL:=by
 have h0:=Ig x 0;have h1:=Ig x 1;have h2:=Ig x 2;have h3:=Ig x 3;have h4:=Ig x 4;rw[qv5];unfold CL;omega
theorem NF(x:Nat→Int):qv (cd x) 5=qv x 5%CL∧cc x 5=qv x 5/CL:=by
 have h:=V5 x 5;have hb:=AaX x;rw[q5] at h;unfold CL at *;omega
structure Sm (x:Nat→Int):Prop where
 a:∀i,i<5→0≤x i
 b:∀i,i<5→i≠1→x i<67108864
 c:x 1<67141632
theorem Sm.dg{x:Nat→Int}(h:Sm x):Dg 67141632 5 x:=fun i hi=>⟨h.a i hi,by
 by_cases e:i=1
 ·subst e;exact h.c
 ·have:=h.b i hi e;omega⟩
theorem Sm.lt{x:Nat→Int}(h:Sm x):0≤qv x 5∧qv x 5<CL+4398046511104:=by
 have h0:=h.b 0 (by omega) (by omega);have h2:=h.b 2 (by omega) (by omega);have h3:=h.b 3 (by omega) (by omega);have h4:=h.b 4 (by omega) (by omega);have h1:=h.c;have k0:=h.a 0 (by omega);have k1:=h.a 1 (by omega);have k2:=h.a 2 (by omega);have k3:=h.a 3 (by omega);have k4:=h.a 4 (by omega);rw[qv5];unfold CL;omega
def NG(x y:Nat→Int)(k i:Nat):Int:=if i<k then x i+y i else x i
theorem Ti(s g:Nat→Int)(j:Nat):upd (NG s g j) j (NG s g j j+g j)=NG s g (j+1):=by
 funext i
 unfold upd NG
 by_cases e:i=j
 ·subst e;simp
 ·rw[if_neg e]
  by_cases h:i<j
  ·rw[if_pos h,if_pos (by omega)]
  ·rw[if_neg h,if_neg (by omega)]
theorem V6(x y:Nat→Int):∀n,qv (fun i=>x i+y i) n=qv x n+qv y n
 | 0=>rfl
 | n+1=>by
  have ih:=V6 x y n;unfold qv;rw[ih,Acw];omega
theorem PW(z h r:Nat→Int)(R:Int)(i k:Nat)(hik:i+k<10)(hz:qv z 10=qv h i*R+67108864 ^ i*(h i*qv r k)):qv (upd z (i+k) (z (i+k)+h i*r k)) 10=qv h i*R+67108864 ^ i*(h i*qv r (k+1)):=by
 rw[NA hik,hz];show qv h i*R+67108864 ^ i*(h i*qv r k)+67108864 ^ (i+k)*(h i*r k)=qv h i*R+67108864 ^ i*(h i*(qv r k+67108864 ^ k*r k));rw[Acw,Acw,Ac2,Acn,←Acn (67108864 ^ k),Acy (67108864 ^ k) (h i),Acn];omega
theorem Tj(h r:Nat→Int)(i:Nat):qv h i*qv r 5+67108864 ^ i*(h i*qv r 5)=qv h (i+1)*qv r 5:=by
 show _=(qv h i+67108864 ^ i*h i)*qv r 5;rw[Int.add_mul,Acn]
def Gi(z:Nat→Int)(k i:Nat):Int:=if i<k then z i+5*z (i+5) else 0
theorem PX(z:Nat→Int)(k:Nat):upd (Gi z k) k (z k+5*z (k+5))=Gi z (k+1):=by
 funext i
 unfold upd Gi
 by_cases e:i=k
 ·subst e;simp
 ·rw[if_neg e]
  by_cases h:i<k
  ·rw[if_pos h,if_pos (by omega)]
  ·rw[if_neg h,if_neg (by omega)]
theorem Tk(z:Nat→Int):qv z 10=qv (Gi z 5) 5+P130*qv (fun j=>z (5+j)) 5:=by
 have h:=O7 z 5 5;rw[q5] at h;rw[show (5+5:Nat)=10 from rfl] at h;rw[h,qv5 z,qv5 (fun j=>z (5+j)),qv5 (Gi z 5)];simp only[Gi,show (0:Nat)<5 from by decide,show (1:Nat)<5 from by decide,show (2:Nat)<5 from by decide,show (3:Nat)<5 from by decide,show (4:Nat)<5 from by decide,if_true,Ac6,Acl,Nat.reduceAdd];unfold CL P130;omega
def GB(x:Nat→Int)(i:Nat):Int:=if i=0 then (cd x 0+5*cc x 5)%67108864 else if i=1 then cd x 1+(cd x 0+5*cc x 5)/67108864 else cd x i
theorem Tl{x:Nat→Int}:∃q,qv x 5=qv (GB x) 5+P130*q:=by
 have h:=V5 x 5;rw[q5,qv5 (cd x)] at h;refine⟨cc x 5,?_⟩;rw[qv5 (GB x)];simp only[GB,if_true,show (1:Nat)≠0 from by decide,show (2:Nat)≠0 from by decide,show (3:Nat)≠0 from by decide,show (4:Nat)≠0 from by decide,show (2:Nat)≠1 from by decide,show (3:Nat)≠1 from by decide,show (4:Nat)≠1 from by decide,if_false];unfold CL at h;unfold P130;omega
theorem V7{x:Nat→Int}(hx:Dg 9223372036854775808 5 x):Sm (GB x):=by
 have hc:=Th hx 5 (Acg _);have h0:=Ig x 0;have h1:=Ig x 1;refine⟨fun i hi=>?_,fun i hi h=>?_,?_⟩
 ·have:=Ig x i
  unfold GB
  split
  ·omega
  ·split<;>omega
 ·have:=Ig x i
  unfold GB;rw[if_neg h]
  split<;>omega
 ·show cd x 1+(cd x 0+5*cc x 5)/67108864<67141632
  omega
theorem Tm(x:Nat→Int)(i:Nat):upd (upd (upd (cd x) 0 (cd x 0+5*cc x 5)) 1 (cd x 1+(cd x 0+5*cc x 5)/67108864)) 0 ((cd x 0+5*cc x 5)%67108864) i=GB x i:=by
 unfold upd GB
 by_cases e0:i=0
 ·simp only[e0,if_true]
 ·by_cases e1:i=1
  ·simp only[e1,if_true,if_neg (show ¬(1=0) by decide)]
  ·simp only[if_neg e0,if_neg e1]
theorem KR{a b:Int}(h0:0≤a)(h1:a<b):a/b=0∧a%b=a:=⟨Int.ediv_eq_zero_of_lt h0 h1,AcN h0 h1⟩
theorem O8{a b:Int}(h0:b≤a)(h1:a<b+b):a/b=1∧a%b=a-b:=by
 have hb:0<b:=by omega
 have e:a=(a-b)+b*1:=by omega
 have e2:=AcS (a-b) 1 (show b≠0 by omega);have e3:=AcQ (a-b) b 1;rw[←e] at e2 e3;have h:=KR (a:=a-b) (b:=b) (by omega) (by omega);omega
theorem O9{X:Int}(h0:0≤X)(h1:X<CL+4398046511104):((X%CL+5*(X/CL))%CL+5*(((X%CL+5*(X/CL))%CL+5)/CL))%CL=X%P130:=by
 have hW:CL=P130+5:=by decide
 have hP:4398046511104+1000<P130:=by decide
 generalize CL=W at *;generalize P130=P at *
 by_cases c:X<W
 ·obtain⟨a1,a2⟩:=KR h0 c
  rw[a1,a2,show X+5*0=X by omega,a2]
  by_cases d:X+5<W
  ·rw[(KR (by omega) d).1,show X+5*0=X by omega,a2,(KR h0 (show X<P by omega)).2]
  ·rw[(O8 (a:=X+5) (b:=W) (by omega) (by omega)).1,show X+5*1=X+5 by omega,(O8 (a:=X+5) (b:=W) (by omega) (by omega)).2,(O8 (a:=X) (b:=P) (by omega) (by omega)).2]
   omega
 ·obtain⟨a1,a2⟩:=O8 (a:=X) (b:=W) (by omega) (by omega)
  rw[a1,a2,(KR (a:=X-W+5*1) (b:=W) (by omega) (by omega)).2,(KR (a:=X-W+5*1+5) (b:=W) (by omega) (by omega)).1,(KR (a:=X-W+5*1+5*0) (b:=W) (by omega) (by omega)).2,(O8 (a:=X) (b:=P) (by omega) (by omega)).2];omega
theorem Jy{x x1 rc x3:Nat→Int}(h:Sm x)(h1:x1=upd (cd x) 0 (cd x 0+5*cc x 5))(hr:rc=upd (cd x1) 0 (cd x1 0+5))(h3:x3=upd (cd x1) 0 (cd x1 0+5*cc rc 5)):qv (cd x3) 5=qv x 5%P130:=by
 have hX:=h.lt;have e1:qv x1 5=qv (cd x) 5+5*cc x 5:=by rw[h1,NA (by decide)];simp
 have e2:qv rc 5=qv (cd x1) 5+5:=by rw[hr,NA (by decide)];simp
 have e3:qv x3 5=qv (cd x1) 5+5*cc rc 5:=by rw[h3,NA (by decide)];simp
 have n0:=NF x;have n1:=NF x1;have n2:=NF rc;have n3:=NF x3;rw[n3.1,e3,n2.2,e2,n1.1,e1,n0.1,n0.2];exact O9 hX.1 hX.2
theorem PY{x:Nat→Int}{v:Int}(h0:0≤v)(h1:v<9223372036854775808):Dg 9223372036854775808 5 (upd (cd x) 0 v):=fun i _=>by
 have:=Ig x i;unfold upd
 split<;>omega
theorem isL:Da 247 5:=⟨_,_,underlying247,by kernel_rfl⟩
theorem AaY:Da 249 2:=⟨_,_,underlying249,by kernel_rfl⟩
theorem w64{z:Int}(h0:0≤z)(h1:z<18446744073709551616):IntKind.u64.wrap z=z:=by rw[IntKind.wrap_u64];omega
theorem MJ{z:Int}(h0:0≤z)(h1:z<18446744073709551616):bits BinOp.and IntKind.u64 z 67108863=z%67108864:=by
 obtain⟨n,rfl⟩:=Ac3 h0;rw[show (67108863:Int)=((67108863:Nat):Int) from rfl,bits_and_u64_nat _ _ (by omega) (by omega)];have:=Nat.and_two_pow_sub_one_eq_mod n 26;rw[show (2 ^ 26-1:Nat)=67108863 from rfl] at this;rw[this];omega
def KS(x:Nat→Int)(i j:Nat):Int:=if j<i then cd x j else x j
theorem PZ(x:Nat→Int)(i:Nat):upd (KS x i) i (cd x i)=KS x (i+1):=by
 funext j
 unfold upd KS
 by_cases e:j=i
 ·subst e;simp
 ·rw[if_neg e]
  by_cases h:j<i
  ·rw[if_pos h,if_pos (by omega)]
  ·rw[if_neg h,if_neg (by omega)]
theorem DI(x:Nat→Int)(w:World)(hx:Dg 9223372036854775808 5 x):Calls prog 232 #[.agg (WA .u64 5 x)] w fun e w'=>e=.returned (.tuple #[.agg (WA .u64 5 (cd x)),.int .u64 (cc x 5)])∧Below w.heap.size w w':=by
 have g0:ArrAt ((w.alloc (.cells (WA .u64 5 x) 247)).alloc (.cells (WA .u64 5 fun _=>0) 247)) w.heap.size .u64 247 5 x:=heap_alloc2_old w _ _;have g1:ArrAt ((w.alloc (.cells (WA .u64 5 x) 247)).alloc (.cells (WA .u64 5 fun _=>0) 247)) (w.heap.size+1) .u64 247 5 (fun _=>0):=heap_alloc2_new w _ _;have hB:Below w.heap.size w ((w.alloc (.cells (WA .u64 5 x) 247)).alloc (.cells (WA .u64 5 fun _=>0) 247)):=((Below.refl _ w).alloc (by simp) _).alloc (by simp) _;go_enter func232,ntmps232;go_wp2_with fail
 go_loopg [4,6] 5 (fun gm cv iv v=>∃i:Nat,Hid (gm+i=5)∧iv=.int .i64 (i:Int)∧cv=.int .u64 (cc x i)∧ArrAt v w.heap.size .u64 247 5 (KS x i)∧ArrAt v (w.heap.size+1) .u64 247 5 (fun _=>0)∧Below w.heap.size w v)
 case atStart=>exact⟨0,Hid.mk rfl,rfl,rfl,g0,g1,hB⟩
 case round =>
  clear g0 g1 hB;obtain⟨i,HI,rfl,rfl,g0,g1,hB⟩:=hrel;have hi5:i≤5:=by have:=HI.out;omega
  by_cases hil:i<5
  ·have ck:=g0.cell i (by omega)
   have fr:=g0.free i;have hxi:=hx i hil;have hci:=Th hx i hi5;have e0:KS x i i=x i:=by unfold KS;rw[if_neg (by omega)]
   rw[e0] at ck;have hw:=w64 (z:=x i+cc x i) (by omega) (by omega);have ha:=MJ (z:=x i+cc x i) (by omega) (by omega);go_wp2_with fail
   go_roundg (5-(i+1))
   case rel =>
    refine⟨i+1,Hid.mk (by omega),by go_num,rfl,?_,(g1.other _ (by omega)).other _ (by omega),Below.setCell (Below.setCell hB (by simp) _) (by simp) _⟩;rw[←PZ x i,←FE _ i (x i+cc x i)];exact(g0.set i _ hil).set i _ hil
   case measure=>have:=HI.out;omega
  ·have hi2:i=5:=by omega
   subst hi2;replace g0:=g0.congr (s':=cd x) (fun j hj=>by unfold KS;rw[if_pos hj])
   go_wp2_with (first | refine Aq isL g0 (by rfl) ?_ | (refine A1 isL g1 (by rfl) (by rfl) ?_;intro w2 g2 o2;refine Hid.out ?_))
   refine Hid.mk ?_;go_wp2_with fail;refine bodyPost_ret (v:=.tuple #[.agg (WA .u64 5 (cd x)),.int .u64 (cc x 5)]) (DU results232 _ _ (w.heap.size+1) (by rfl) (by rfl) (WA .u64 5 (cd x)) g2 (by kernel_rfl) underlying247 rfl) rfl ⟨rfl,?_⟩;exact hB.trans (o2.below (by omega))
structure Wide (x y:Nat→Int) (i j:Nat) (z:Nat→Int):Prop where
 b:∀k,k<10→0≤z k∧z k≤((5*i+j:Nat):Int)*18014398509481984
 num:qv z 10=qv x i*qv y 5+67108864 ^ i*(x i*qv y j)
theorem Wide.step{x y:Nat→Int}{i j:Nat}{z:Nat→Int}(h:Wide x y i j z)(hx:Dg 268435456 5 x)(hy:Dg 67108864 5 y)(hi:i<5)(hj:j<5):Wide x y i (j+1) (upd z (i+j) (z (i+j)+x i*y j))∧0≤x i*y j∧x i*y j≤18014398509481984:=by
 have h1:=hx i hi;have h2:=hy j hj;have p0:0≤x i*y j:=Int.mul_nonneg h1.1 h2.1;have p1:x i*y j≤268435456*67108864:=Int.mul_le_mul (by omega) (by omega) h2.1 (by omega);refine⟨⟨fun k hk=>?_,PW z x y _ i j (by omega) h.num⟩,p0,by omega⟩;have hb:=h.b k hk;unfold upd
 split
 ·rename_i e;subst e;omega
 ·omega
theorem Wide.row{x y:Nat→Int}{i:Nat}{z:Nat→Int}(h:Wide x y i 5 z):Wide x y (i+1) 0 z:=by
 refine⟨fun k hk=>?_,?_⟩
 ·have:=h.b k hk;omega
 ·rw[h.num,Tj];simp[qv]
theorem Qa(x y:Nat→Int)(w:World)(hx:Dg 268435456 5 x)(hy:Dg 67108864 5 y):Calls prog 227 #[.agg (WA .u64 5 x),.agg (WA .u64 5 y)] w fun e w'=>∃z,Sm z∧(∃q,qv x 5*qv y 5=qv z 5+P130*q)∧e=.returned (.agg (WA .u64 5 z))∧Below w.heap.size w w':=by
 have g0:ArrAt ((((w.alloc (.cells (WA .u64 5 x) 247)).alloc (.cells (WA .u64 5 y) 247)).alloc (.cells (WA .u64 5 fun _=>0) 247)).alloc (.cells (WA .u64 10 fun _=>0) 259)) w.heap.size .u64 247 5 x:=(show ArrAt (((w.alloc (.cells (WA .u64 5 x) 247)).alloc (.cells (WA .u64 5 y) 247)).alloc (.cells (WA .u64 5 fun _=>0) 247)) w.heap.size .u64 247 5 x from A6 w _ _ _).alloc _;have g1:ArrAt ((((w.alloc (.cells (WA .u64 5 x) 247)).alloc (.cells (WA .u64 5 y) 247)).alloc (.cells (WA .u64 5 fun _=>0) 247)).alloc (.cells (WA .u64 10 fun _=>0) 259)) (w.heap.size+1) .u64 247 5 y:=(show ArrAt (((w.alloc (.cells (WA .u64 5 x) 247)).alloc (.cells (WA .u64 5 y) 247)).alloc (.cells (WA .u64 5 fun _=>0) 247)) (w.heap.size+1) .u64 247 5 y from AB w _ _ _).alloc _;have g2:ArrAt ((((w.alloc (.cells (WA .u64 5 x) 247)).alloc (.cells (WA .u64 5 y) 247)).alloc (.cells (WA .u64 5 fun _=>0) 247)).alloc (.cells (WA .u64 10 fun _=>0) 259)) (w.heap.size+1+1) .u64 247 5 (fun _=>0):=(show ArrAt (((w.alloc (.cells (WA .u64 5 x) 247)).alloc (.cells (WA .u64 5 y) 247)).alloc (.cells (WA .u64 5 fun _=>0) 247)) (w.heap.size+1+1) .u64 247 5 (fun _=>0) from AK w _ _ _).alloc _;have g3:ArrAt ((((w.alloc (.cells (WA .u64 5 x) 247)).alloc (.cells (WA .u64 5 y) 247)).alloc (.cells (WA .u64 5 fun _=>0) 247)).alloc (.cells (WA .u64 10 fun _=>0) 259)) (w.heap.size+1+1+1) .u64 259 10 (fun _=>0):=GU w _ _ _ _;have hB:Below w.heap.size w ((((w.alloc (.cells (WA .u64 5 x) 247)).alloc (.cells (WA .u64 5 y) 247)).alloc (.cells (WA .u64 5 fun _=>0) 247)).alloc (.cells (WA .u64 10 fun _=>0) 259)):=((((Below.refl _ w).alloc (by simp) _).alloc (by simp) _).alloc (by simp;omega) _).alloc (by simp;omega) _;have HX:=Hid.mk hx;have HY:=Hid.mk hy;clear hx hy;go_enter func227,ntmps227;go_wp2_with fail
 go_loopg [11] 5 (fun gm iv v=>∃(i:Nat) (z:Nat→Int),Hid (gm+i=5)∧iv=.int .i64 (i:Int)∧Hid (Wide x y i 0 z)∧ArrAt v (w.heap.size+1+1+1) .u64 259 10 z∧ArrAt v w.heap.size .u64 247 5 x∧ArrAt v (w.heap.size+1) .u64 247 5 y∧ArrAt v (w.heap.size+1+1) .u64 247 5 (fun _=>0)∧Below w.heap.size w v)
 case atStart=>exact⟨0,fun _=>0,Hid.mk rfl,rfl,Hid.mk ⟨fun k _=>by show 0≤(0:Int)∧(0:Int)≤_;omega,by simp[qv]⟩,g3,g0,g1,g2,hB⟩
 case round =>
  clear g0 g1 g2 g3 hB;obtain⟨i,z,HI,rfl,HW,g3,g0,g1,g2,hB⟩:=hrel;have hi5:i≤5:=by have:=HI.out;omega
  by_cases hil:i<5
  ·have hdi:decide ((i:Int)<5)=true:=decide_eq_true (by omega)
   go_wp2_with fail;generalize wr=wy at *;generalize gk=gy at *
   go_loopg [14] 5 (fun gm jv v=>∃(j:Nat) (z:Nat→Int),Hid (gm+j=5)∧jv=.int .i64 (j:Int)∧Hid (Wide x y i j z)∧ArrAt v (w.heap.size+1+1+1) .u64 259 10 z∧ArrAt v w.heap.size .u64 247 5 x∧ArrAt v (w.heap.size+1) .u64 247 5 y∧ArrAt v (w.heap.size+1+1) .u64 247 5 (fun _=>0)∧Below w.heap.size w v)
   case atStart=>exact⟨0,z,Hid.mk rfl,rfl,HW,g3,g0,g1,g2,hB⟩
   case round =>
    clear g0 g1 g2 g3 hB HW;obtain⟨j,z,HJ,rfl,HW,g3,g0,g1,g2,hB⟩:=hrel;have hj5:j≤5:=by have:=HJ.out;omega
    by_cases hjl:j<5
    ·have cz:=g3.cell (i+j) (by omega)
     have fz:=g3.free (i+j);have cx:=g0.cell i hil;have cy:=g1.cell j hjl;obtain⟨hst,hp0,hp1⟩:=HW.out.step HX.out HY.out hil hjl;have HST:=Hid.mk hst;clear hst;have hzb:=HW.out.b (i+j) (by omega);have g32:=Hid.mk (g3.set (i+j) (z (i+j)+x i*y j) (by omega));obtain⟨pr,hpr2⟩:∃pr,x i*y j=pr:=⟨_,rfl⟩;rw[hpr2] at HST hp0 hp1 g32;generalize hx1:z (i+j)=x1 at *;generalize hx2:x i=x2 at *;generalize hx3:y j=x3 at *;have hw1:=w64 (z:=pr) (by omega) (by omega);have hw2:=w64 (z:=x1+pr) (by omega) (by omega);have hijb:(i:Int)+(j:Int)<10:=by omega
     clear hzb;go_wp2_with fail
     go_region
     go_wp2_with fail
     go_roundg (5-(j+1))
     case rel=>exact⟨j+1,_,Hid.mk (by omega),by go_num,HST,g32.out,g0.other _ (by omega),g1.other _ (by omega),g2.other _ (by omega),(Below.setCell hB (p:=⟨w.heap.size+1+1+1,i+j,none⟩) (by simp;omega) _).drew⟩
     case measure=>have:=HJ.out;omega
    ·have hj2:j=5:=by omega
     subst hj2;have HW2:=Hid.mk HW.out.row;clear HW HJ hjl hj5;go_wp2_with fail
     go_roundg (5-(i+1))
     case rel=>exact⟨i+1,z,Hid.mk (by omega),by go_num,HW2,g3,g0,g1,g2,hB⟩
     case measure=>have:=HI.out;omega
  ·have hi2:i=5:=by omega
   subst hi2;have HZB:Hid (∀k,k<10→0≤z k∧z k≤450359962737049600):=Hid.mk (fun k hk=>by have:=HW.out.b k hk;omega);have HN:Hid (qv x 5*qv y 5=qv z 10):=Hid.mk (by rw[HW.out.num];simp[qv]);clear HW HI hil hi5;have gn:∀o,o=Obj.cells (WA .u64 5 fun _=>0) 247 (0,0)→ArrAt (wr.alloc o) wr.heap.size .u64 247 5 (fun _=>0):=fun o ho=>by rw[ho];exact heap_alloc_new wr _
   have hz3:=g3.lt;have hBS:=hB.size;generalize gk=gz at *;generalize wr=wz at *;go_wp2_with fail
   go_loopg [33] 5 (fun gm iv v=>∃i:Nat,Hid (gm+i=5)∧iv=.int .i64 (i:Int)∧ArrAt v wz.heap.size .u64 247 5 (Gi z i)∧ArrAt v (w.heap.size+1+1+1) .u64 259 10 z∧ArrAt v (w.heap.size+1+1) .u64 247 5 (fun _=>0)∧Below w.heap.size w v)
   case atStart=>exact⟨0,Hid.mk rfl,rfl,(gn _ rfl).congr (fun j _=>by unfold Gi;rw[if_neg (by omega)]),g3.alloc _,g2.alloc _,hB.alloc (by omega) _⟩
   case round =>
    clear g0 g1 g2 g3 hB gn;obtain⟨i,HI,rfl,g4,g3,g2,hB⟩:=hrel;have hi5:i≤5:=by have:=HI.out;omega
    by_cases hil:i<5
    ·have c0:=g3.cell i (by omega)
     have c5:=g3.cell (i+5) (by omega);have c4:=g4.cell i hil;have f4:=g4.free i;have hb0:=HZB.out i (by omega);have hb5:=HZB.out (i+5) (by omega);have g42:=Hid.mk (g4.set i (z i+5*z (i+5)) hil);rw[PX] at g42;have hi10:(i:Int)+5<10:=by omega
     have hi10':(i:Int)<10:=by omega
     generalize hx1:z i=x1 at *;generalize hx2:z (i+5)=x2 at *;have hw1:=w64 (z:=5*x2) (by omega) (by omega);have hw2:=w64 (z:=x1+5*x2) (by omega) (by omega);go_wp2_with fail
     go_region
     go_wp2_with fail
     go_roundg (5-(i+1))
     case rel=>exact⟨i+1,Hid.mk (by omega),by go_num,g42.out,g3.other _ (by omega),g2.other _ (by omega),(Below.setCell hB (p:=⟨wz.heap.size,i,none⟩) (by simp;omega) _).drew⟩
     case measure=>have:=HI.out;omega
    ·have hi2:i=5:=by omega
     subst hi2
     have HF:Hid (Dg 9223372036854775808 5 (Gi z 5)):=Hid.mk (fun k hk=>by
      have h1:=HZB.out k (by omega);have h2:=HZB.out (k+5) (by omega);unfold Gi;rw[if_pos hk];omega)
     have HQ:=Hid.mk (And.intro (Tk z) (Tl (x:=Gi z 5)));generalize Gi z 5=f at *;clear HI hil hi5
     go_wp2_with (refine Aq isL g4 (by rfl) ?_)
     refine(DI f wr HF.out).mono ?_;rintro e v5 ⟨rfl,hb5⟩;have hz4:=g4.lt;replace g4:=g4.kept hb5;replace g2:=g2.kept hb5;replace hB:=hB.trans (hb5.mono hB.size);clear g3 hb5
     go_wp2_with (refine A1 isL g4 (by rfl) (by rfl) ?_;intro w6 g5 o5;refine Hid.out ?_)
     replace g2:=g2.only o5 (by omega);replace hB:=hB.trans (o5.below (by omega));clear o5 g4;have hc:=Th HF.out 5 (Acg _);have h0:=Ig f 0;have h1:=Ig f 1;have c0:=g5.cell 0 (by decide);have c1:=g5.cell 1 (by decide);have f0:=g5.free 0;have f1:=g5.free 1;have gF:=(((g5.set 0 (cd f 0+5*cc f 5) (by decide)).set 1 (cd f 1+(cd f 0+5*cc f 5)/67108864) (by decide)).set 0 ((cd f 0+5*cc f 5)%67108864) (by decide)).congr (s':=GB f) (fun i _=>Tm f i);have hBF:=Below.setCell (p:=⟨wz.heap.size,0,none⟩) (Below.setCell (p:=⟨wz.heap.size,1,none⟩) (Below.setCell (p:=⟨wz.heap.size,0,none⟩) hB (by simp;omega) (.int .u64 (cd f 0+5*cc f 5))) (by simp;omega) (.int .u64 (cd f 1+(cd f 0+5*cc f 5)/67108864))) (by simp;omega) (.int .u64 ((cd f 0+5*cc f 5)%67108864));have gR:=((g2.other (g:=wz.heap.size) (i:=0) (.int .u64 (cd f 0+5*cc f 5)) (by omega)).other (g:=wz.heap.size) (i:=1) (.int .u64 (cd f 1+(cd f 0+5*cc f 5)/67108864)) (by omega)).other (g:=wz.heap.size) (i:=0) (.int .u64 ((cd f 0+5*cc f 5)%67108864)) (by omega);have hF:=V7 HF.out;clear g2 hB g5;generalize cd f 0=d0 at *;generalize cd f 1=d1 at *;generalize cc f 5=c5 at *;have hw1:=w64 (z:=5*c5) (by omega) (by omega);have hw2:=w64 (z:=d0+5*c5) (by omega) (by omega);have hw3:=w64 (z:=d1+(d0+5*c5)/67108864) (by omega) (by omega);have ha:=MJ (z:=d0+5*c5) (by omega) (by omega);refine Hid.mk ?_
     go_wp2_with (first | refine Aq isL gF (by rfl) ?_ | (refine A1 isL gR (by rfl) (by rfl) ?_;intro w7 g7 o7;refine Hid.out ?_))
     refine Hid.mk ?_;go_wp2_with fail;refine bodyPost_ret (v:=.agg (WA .u64 5 (GB f))) (AE results227 isL g7 (by rfl)) rfl ⟨GB f,hF,?_,rfl,hBF.trans (o7.below (by omega))⟩;obtain⟨q,hq⟩:=HQ.out.2;refine⟨q+qv (fun j=>z (5+j)) 5,?_⟩;rw[HN.out,HQ.out.1,hq,Acw];omega
theorem Qb(x:Nat→Int)(w:World)(hx:Sm x):Calls prog 230 #[.agg (WA .u64 5 x)] w fun e w'=>∃z,Dg 67108864 5 z∧qv z 5=qv x 5%P130∧e=.returned (.agg (WA .u64 5 z))∧Below w.heap.size w w':=by
 have g0:ArrAt ((w.alloc (.cells (WA .u64 5 x) 247)).alloc (.cells (WA .u64 5 fun _=>0) 247)) w.heap.size .u64 247 5 x:=heap_alloc2_old w _ _;have g1:ArrAt ((w.alloc (.cells (WA .u64 5 x) 247)).alloc (.cells (WA .u64 5 fun _=>0) 247)) (w.heap.size+1) .u64 247 5 (fun _=>0):=heap_alloc2_new w _ _;have hB:Below w.heap.size w ((w.alloc (.cells (WA .u64 5 x) 247)).alloc (.cells (WA .u64 5 fun _=>0) 247)):=((Below.refl _ w).alloc (by simp) _).alloc (by simp) _;obtain⟨x1,h1⟩:∃x1,x1=upd (cd x) 0 (cd x 0+5*cc x 5):=⟨_,rfl⟩;obtain⟨rc,hr⟩:∃rc,rc=upd (cd x1) 0 (cd x1 0+5):=⟨_,rfl⟩;obtain⟨x3,h3⟩:∃x3,x3=upd (cd x1) 0 (cd x1 0+5*cc rc 5):=⟨_,rfl⟩;have HN:=Hid.mk (Jy hx h1 hr h3);have dx:Dg 9223372036854775808 5 x:=fun i hi=>by have:=hx.dg i hi;omega
 have hcx:=Th dx 5 (Acg _);have hd:=Ig x 0;have d1:Dg 9223372036854775808 5 x1:=by rw[h1];exact PY (by omega) (by omega)
 have hd1:=Ig x1 0;have dr:Dg 9223372036854775808 5 rc:=by rw[hr];exact PY (by omega) (by omega)
 have hcr:=Th dr 5 (Acg _);have d3:Dg 9223372036854775808 5 x3:=by rw[h3];exact PY (by omega) (by omega)
 have hw1:=w64 (z:=5*cc x 5) (by omega) (by omega);have hw2:=w64 (z:=cd x 0+5*cc x 5) (by omega) (by omega);have hw3:=w64 (z:=cd x1 0+5) (by omega) (by omega);have hw4:=w64 (z:=5*cc rc 5) (by omega) (by omega);have hw5:=w64 (z:=cd x1 0+5*cc rc 5) (by omega) (by omega);have HD:=Hid.mk (And.intro dx (And.intro d1 (And.intro dr d3)));have H1:=Hid.mk h1;have HR:=Hid.mk hr;have H3:=Hid.mk h3;clear dx d1 dr d3 hd hd1 hcx hcr h1 hr h3 hx;go_enter func230,ntmps230
 go_wp2_with (refine Aq isL g0 (by rfl) ?_)
 refine(DI x _ HD.out.1).mono ?_;rintro e v1 ⟨rfl,hb⟩;replace g0:=g0.kept hb;replace g1:=g1.kept hb;replace hB:=hB.trans (hb.mono hB.size);clear hb
 go_wp2_with (refine A1 isL g0 (by rfl) (by rfl) ?_;intro v2 g2 o2;refine Hid.out ?_)
 replace g0:=g2;replace g1:=g1.only o2 (by omega);replace hB:=hB.trans (o2.below (Acg _));clear o2 g2;have c0:=g0.cell 0 (by decide);have f0:=g0.free 0;replace g0:=g0.set 0 (cd x 0+5*cc x 5) (by decide);rw[←H1.out] at g0;replace g1:=g1.other (g:=w.heap.size) (i:=0) (.int .u64 (cd x 0+5*cc x 5)) (by omega);replace hB:=Below.setCell (p:=⟨w.heap.size,0,none⟩) hB (by simp) (.int .u64 (cd x 0+5*cc x 5));refine Hid.mk ?_
 go_wp2_with (refine Aq isL g0 (by rfl) ?_)
 refine(DI x1 _ HD.out.2.1).mono ?_;rintro e v3 ⟨rfl,hb⟩;clear c0 f0;replace g0:=g0.kept hb;replace g1:=g1.kept hb;replace hB:=hB.trans (hb.mono hB.size);clear hb
 go_wp2_with (refine A1 isL g0 (by rfl) (by rfl) ?_;intro v4 g2 o2;refine Hid.out ?_)
 replace g0:=g2;replace g1:=g1.only o2 (by omega);replace hB:=hB.trans (o2.below (Acg _));clear o2 g2;have gn:∀o,o=Obj.cells (WA .u64 5 fun _=>0) 247 (0,0)→ArrAt (v4.alloc o) v4.heap.size .u64 247 5 (fun _=>0):=fun o ho=>by rw[ho];exact heap_alloc_new v4 _
 have hz:=g1.lt;refine Hid.mk ?_
 go_wp2_with (first | refine Aq isL g0 (by rfl) ?_ | (refine A1 isL (gn _ rfl) (by rfl) (by rfl) ?_;intro v5 g2 o2;refine Hid.out ?_))
 replace g0:=(g0.alloc _).only o2 (by omega);replace g1:=(g1.alloc _).only o2 (by omega);have hz2:=hB.size;replace hB:=(hB.alloc (by omega) _).trans (o2.below (by omega));clear o2;clear gn;have c0:=g2.cell 0 (by decide);have f0:=g2.free 0;replace g2:=g2.set 0 (cd x1 0+5) (by decide);rw[←HR.out] at g2;replace g0:=g0.other (g:=v4.heap.size) (i:=0) (.int .u64 (cd x1 0+5)) (by omega);replace g1:=g1.other (g:=v4.heap.size) (i:=0) (.int .u64 (cd x1 0+5)) (by omega);replace hB:=Below.setCell (p:=⟨v4.heap.size,0,none⟩) hB (by simp;omega) (.int .u64 (cd x1 0+5));refine Hid.mk ?_
 go_wp2_with (refine Aq isL g2 (by rfl) ?_)
 refine(DI rc _ HD.out.2.2.1).mono ?_;rintro e v6 ⟨rfl,hb⟩;clear c0 f0 g2;replace g0:=g0.kept hb;replace g1:=g1.kept hb;replace hB:=hB.trans (hb.mono hB.size);clear hb;have c0:=g0.cell 0 (by decide);have f0:=g0.free 0;replace g0:=g0.set 0 (cd x1 0+5*cc rc 5) (by decide);rw[←H3.out] at g0;replace g1:=g1.other (g:=w.heap.size) (i:=0) (.int .u64 (cd x1 0+5*cc rc 5)) (by omega);replace hB:=Below.setCell (p:=⟨w.heap.size,0,none⟩) hB (by simp) (.int .u64 (cd x1 0+5*cc rc 5))
 go_wp2_with (refine Aq isL g0 (by rfl) ?_)
 refine(DI x3 _ HD.out.2.2.2).mono ?_;rintro e v7 ⟨rfl,hb⟩;clear c0 f0;replace g0:=g0.kept hb;replace g1:=g1.kept hb;replace hB:=hB.trans (hb.mono hB.size);clear hb
 go_wp2_with (refine A1 isL g0 (by rfl) (by rfl) ?_;intro v8 g2 o2;refine Hid.out ?_)
 replace g0:=g2;replace g1:=g1.only o2 (by omega);replace hB:=hB.trans (o2.below (Acg _));clear o2 g2;refine Hid.mk ?_
 go_wp2_with (first | refine Aq isL g0 (by rfl) ?_ | (refine A1 isL g1 (by rfl) (by rfl) ?_;intro v9 g2 o2;refine Hid.out ?_))
 refine Hid.mk ?_;go_wp2_with fail;exact bodyPost_ret (v:=.agg (WA .u64 5 (cd x3))) (AE results230 isL g2 (by rfl)) rfl ⟨cd x3,fun i _=>Ig x3 i,HN.out,rfl,hB.trans (o2.below (by omega))⟩
def BR(x:Int):Prop:=0≤x∧x<256
theorem Bz(a b:Int)(k:Nat)(ha:0≤a)(hb:0≤b)(hk:a<2 ^ k)(hs:a+b*2 ^ k<18446744073709551616):bits BinOp.or IntKind.u64 a (b*2 ^ k)=a+b*2 ^ k:=by
 obtain⟨A,rfl⟩:=Ac3 ha;obtain⟨B,rfl⟩:=Ac3 hb;have e:((B:Int)*2 ^ k)=((B*2 ^ k:Nat):Int):=by rw[Int.natCast_mul,Int.natCast_pow];rfl
 have hA:A<2 ^ k:=by exact_mod_cast hk
 rw[e] at hs ⊢;rw[bits_or_u64_nat _ _ (by omega) (by omega),Nat.or_comm,Nat.mul_comm,←Nat.two_pow_add_eq_or_of_lt hA B];omega
theorem A2(z:Int)(h0:0≤z)(h1:z<18446744073709551616):IntKind.u64.wrap z=z:=w64 h0 h1
theorem KM(x0 x1 x2 x3 x4 x5 x6 x7:Int)(h0:BR x0)(h1:BR x1)(h2:BR x2)(h3:BR x3)(h4:BR x4)(h5:BR x5)(h6:BR x6)(h7:BR x7):bits BinOp.or IntKind.u64 (bits BinOp.or IntKind.u64 (bits BinOp.or IntKind.u64 (bits BinOp.or IntKind.u64 (bits BinOp.or IntKind.u64 (bits BinOp.or IntKind.u64 (bits BinOp.or IntKind.u64 (IntKind.u64.wrap x0) (IntKind.u64.wrap (IntKind.u64.wrap x1*256))) (IntKind.u64.wrap (IntKind.u64.wrap x2*65536))) (IntKind.u64.wrap (IntKind.u64.wrap x3*16777216))) (IntKind.u64.wrap (IntKind.u64.wrap x4*4294967296))) (IntKind.u64.wrap (IntKind.u64.wrap x5*1099511627776))) (IntKind.u64.wrap (IntKind.u64.wrap x6*281474976710656))) (IntKind.u64.wrap (IntKind.u64.wrap x7*72057594037927936)) = x0+x1*256+x2*65536+x3*16777216+x4*4294967296+x5*1099511627776+x6*281474976710656+x7*72057594037927936:=by
 unfold BR at *
 rw[A2 x0 (by omega) (by omega),A2 x1 (by omega) (by omega),A2 x2 (by omega) (by omega),A2 x3 (by omega) (by omega),
  A2 x4 (by omega) (by omega),A2 x5 (by omega) (by omega),A2 x6 (by omega) (by omega),A2 x7 (by omega) (by omega)]
 rw[A2 (x1*256) (by omega) (by omega),A2 (x2*65536) (by omega) (by omega),A2 (x3*16777216) (by omega) (by omega),
  A2 (x4*4294967296) (by omega) (by omega),A2 (x5*1099511627776) (by omega) (by omega),A2 (x6*281474976710656) (by omega) (by omega),A2 (x7*72057594037927936) (by omega) (by omega)]
 rw[show bits BinOp.or IntKind.u64 x0 (x1*256)=x0+x1*256 from Bz _ _ 8 (by omega) (by omega) (by omega) (by omega)];rw[show bits BinOp.or IntKind.u64 (x0+x1*256) (x2*65536)=x0+x1*256+x2*65536 from Bz _ _ 16 (by omega) (by omega) (by omega) (by omega)];rw[show bits BinOp.or IntKind.u64 (x0+x1*256+x2*65536) (x3*16777216)=x0+x1*256+x2*65536+x3*16777216 from Bz _ _ 24 (by omega) (by omega) (by omega) (by omega)];rw[show bits BinOp.or IntKind.u64 (x0+x1*256+x2*65536+x3*16777216) (x4*4294967296)=x0+x1*256+x2*65536+x3*16777216+x4*4294967296 from Bz _ _ 32 (by omega) (by omega) (by omega) (by omega)];rw[show bits BinOp.or IntKind.u64 (x0+x1*256+x2*65536+x3*16777216+x4*4294967296) (x5*1099511627776)=x0+x1*256+x2*65536+x3*16777216+x4*4294967296+x5*1099511627776 from Bz _ _ 40 (by omega) (by omega) (by omega) (by omega)];rw[show bits BinOp.or IntKind.u64 (x0+x1*256+x2*65536+x3*16777216+x4*4294967296+x5*1099511627776) (x6*281474976710656)=x0+x1*256+x2*65536+x3*16777216+x4*4294967296+x5*1099511627776+x6*281474976710656 from Bz _ _ 48 (by omega) (by omega) (by omega) (by omega)];exact Bz _ _ 56 (by omega) (by omega) (by omega) (by omega)
def V8(x0 x1 x2 x3 x4 x5 x6 x7:Int):Int:=x0+x1*256+x2*65536+x3*16777216+x4*4294967296+x5*1099511627776+x6*281474976710656+x7*72057594037927936
theorem N3{k:IntKind}{a b:Int}(h:a=b):Ending.returned (.int k a)=.returned (.int k b):=by rw[h]
theorem KN(b off cap:Nat)(x0 x1 x2 x3 x4 x5 x6 x7:Int)(w:World)(h0:BR x0)(h1:BR x1)(h2:BR x2)(h3:BR x3)(h4:BR x4)(h5:BR x5)(h6:BR x6)(h7:BR x7)(c0:w.cell? ⟨b,off,none⟩=some (.int .u8 x0))(c1:w.cell? ⟨b,off+1,none⟩=some (.int .u8 x1))(c2:w.cell? ⟨b,off+2,none⟩=some (.int .u8 x2))(c3:w.cell? ⟨b,off+3,none⟩=some (.int .u8 x3))(c4:w.cell? ⟨b,off+4,none⟩=some (.int .u8 x4))(c5:w.cell? ⟨b,off+5,none⟩=some (.int .u8 x5))(c6:w.cell? ⟨b,off+6,none⟩=some (.int .u8 x6))(c7:w.cell? ⟨b,off+7,none⟩=some (.int .u8 x7)):Calls prog 221 #[.slice (some ⟨b,off,none⟩) 8 cap] w fun e w'=>e=.returned (.int .u64 (V8 x0 x1 x2 x3 x4 x5 x6 x7))∧∃n,w'=w.drewN n:=by
 go_enter func221,ntmps221;go_wp2
 go_quiet (fail)
 go_wp2
 go_ret
 exact⟨N3 (KM x0 x1 x2 x3 x4 x5 x6 x7 h0 h1 h2 h3 h4 h5 h6 h7),_,rfl⟩
theorem Yu(s:Nat→Int):V8 (s 0) (s 1) (s 2) (s 3) (s 4) (s 5) (s 6) (s 7)=dval s 8:=by
 simp only[dval,V8,AcA,Int.pow_zero];omega
theorem E4(b off cap:Nat)(s:Nat→Int)(w:World)(hs:Byts 8 s)(hc:∀j,j<8→w.cell? ⟨b,off+j,none⟩=some (.int .u8 (s j))):Calls prog 221 #[.slice (some ⟨b,off,none⟩) 8 cap] w fun e w'=>e=.returned (.int .u64 (dval s 8))∧Below w.heap.size w w':=by
 rw[←Yu];refine(KN b off cap _ _ _ _ _ _ _ _ w (hs 0 (by decide)) (hs 1 (by decide)) (hs 2 (by decide)) (hs 3 (by decide)) (hs 4 (by decide)) (hs 5 (by decide)) (hs 6 (by decide)) (hs 7 (by decide))
  (hc 0 (by decide)) (hc 1 (by decide)) (hc 2 (by decide)) (hc 3 (by decide)) (hc 4 (by decide)) (hc 5 (by decide)) (hc 6 (by decide)) (hc 7 (by decide))).mono ?_
 rintro e w' ⟨rfl,n,rfl⟩;exact⟨rfl,⟨rfl,rfl,rfl,Acg _,fun _ _=>rfl⟩⟩
theorem Dt{s:Nat→Int}(hs:Byts 8 s):0≤dval s 8∧dval s 8<18446744073709551616:=by
 have h1:=Bw (s:=s) (n:=8) (fun i hi=>(hs i hi).1);have h2:=Hf (s:=s) (n:=8) hs;rw[show (256:Int) ^ 8=18446744073709551616 from by decide] at h2;exact⟨h1,h2⟩
def pk5(a0 a1 a2 a3 a4:Int):Nat→Int
 | 0=>a0
 | 1=>a1
 | 2=>a2
 | 3=>a3
 | 4=>a4
 | _=>0
theorem Aag(low high:Int)(hl:0≤low∧low<18446744073709551616):bits BinOp.and IntKind.u64 (bits BinOp.or IntKind.u64 (low/4503599627370496) (IntKind.u64.wrap (high*4096))) 67108863=low/4503599627370496+high%16384*4096:=by
 have e:IntKind.u64.wrap (high*4096)=(high%4503599627370496)*2 ^ 12:=by rw[IntKind.wrap_u64];omega
 rw[e,Bz _ _ 12 (by omega) (by omega) (by omega) (by omega),MJ (by omega) (by omega)];omega
def OA(low high top:Int):Nat→Int:=pk5 (low%67108864) (low/67108864%67108864) (low/4503599627370496+high%16384*4096) (high/16384%67108864) (high/1099511627776+top*16777216)
theorem R7{low high top:Int}(hl:0≤low∧low<18446744073709551616)(hh:0≤high∧high<18446744073709551616)(ht:0≤top∧top<4):Dg 67108864 5 (OA low high top):=by
 intro i hi
 match i,hi with
 | 0,_=>show 0≤low%67108864∧low%67108864<67108864;omega
 | 1,_=>show 0≤low/67108864%67108864∧low/67108864%67108864<67108864;omega
 | 2,_=>show 0≤low/4503599627370496+high%16384*4096∧low/4503599627370496+high%16384*4096<67108864;omega
 | 3,_=>show 0≤high/16384%67108864∧high/16384%67108864<67108864;omega
 | 4,_=>show 0≤high/1099511627776+top*16777216∧high/1099511627776+top*16777216<67108864;omega
theorem OB(low high top:Int):qv (OA low high top) 5=low+18446744073709551616*high+340282366920938463463374607431768211456*top:=by
 rw[qv5];simp only[OA,pk5];omega
theorem JT(low high top:Int)(w:World)(hl:0≤low∧low<18446744073709551616)(hh:0≤high∧high<18446744073709551616)(ht:0≤top∧top<4):Calls prog 220 #[.int .u64 low,.int .u64 high,.int .u64 top] w fun e w'=>e=.returned (.agg (WA .u64 5 (OA low high top)))∧Below w.heap.size w w':=by
 go_enter func220,ntmps220;go_wp2_with fail;have e2:=Aag low high hl;have e4:bits BinOp.or IntKind.u64 (high/1099511627776) (top*16777216)=high/1099511627776+top*16777216:=Bz _ _ 24 (by omega) (by omega) (by omega) (by omega);have e0:=MJ (z:=low) (by omega) (by omega);have e1:=MJ (z:=low/67108864) (by omega) (by omega);have e3:=MJ (z:=high/16384) (by omega) (by omega);rw[e0,e1,e2,e3,e4];exact bodyPost_ret (v:=.agg (WA .u64 5 (OA low high top))) (AE results220 isL (show ArrAt _ w.heap.size .u64 247 5 (OA low high top) from heap_alloc_new w _) (by rfl)) rfl ⟨rfl,(Below.refl _ w).alloc (Acg _) _⟩
theorem Qc(lo hi:Int)(i:Nat)(h:i<8):AM lo i=AM (lo+18446744073709551616*hi) i:=by
 unfold AM
 have e:(18446744073709551616:Int)=256 ^ i*(256*256 ^ (7-i)):=by
  rw[show (18446744073709551616:Int)=256 ^ 8 by decide,←Acn,Acn,show (256:Int)*256 ^ (7-i)=256 ^ (8-i) from by rw[show 8-i=(7-i)+1 by omega,Acr,Acy],←Ac2];congr 1;omega
 rw[e,Acn,AcS _ _ (Int.ne_of_gt (G8 i)),Acn];omega
def U64(x:Int):Prop:=0≤x∧x<18446744073709551616
def Bit(c:Int):Prop:=c=0∨c=1
def Sum3(x y c lo hi:Int):Prop:=U64 lo∧Bit hi∧lo+18446744073709551616*hi=x+y+c
theorem Ey(x y c:Int)(hx:U64 x)(hy:U64 y)(hc:Bit c)(w:World):∃lo hi,Sum3 x y c lo hi∧(callFunc 196 #[.int .u64 x,.int .u64 y,.int .u64 c]).run prog w = .ok (.value (.tuple #[.int .u64 lo,.int .u64 hi])) w:=by
 unfold U64 at hx hy;unfold Bit at hc;refine⟨(x+y+c)%18446744073709551616,(x+y+c)/18446744073709551616,⟨⟨?_,?_⟩,?_,?_⟩,?_⟩
 ·omega
 ·omega
 ·unfold Bit;omega
 ·omega
 rw[run_callFunc_extern func196 (by kernel_rfl) (by kernel_rfl) (by kernel_rfl) (e:=add64Entry) (by kernel_rfl),run_add64 x y c (by omega) (by omega) (by omega) (by omega)];rfl
theorem Dj{x y c:Int}(hx:U64 x)(hy:U64 y)(hc:Bit c):∃lo hi,Sum3 x y c lo hi∧∀w,(callFunc 196 #[.int .u64 x,.int .u64 y,.int .u64 c]).run prog w = .ok (.value (.tuple #[.int .u64 lo,.int .u64 hi])) w:=by
 obtain⟨lo,hi,hs,_⟩:=Ey x y c hx hy hc default;refine⟨lo,hi,hs,fun w=>?_⟩;obtain⟨lo',hi',hs',e⟩:=Ey x y c hx hy hc w;have e1:lo'=lo∧hi'=hi:=by unfold Sum3 U64 Bit at hs hs';omega
 rw[e,e1.1,e1.2]
theorem Mh(b off cap:Nat)(x:Int)(v0 v1 v2 v3 v4 v5 v6 v7:Value)(w:World)(c0:w.cell? ⟨b,off,none⟩=some v0)(c1:w.cell? ⟨b,off+1,none⟩=some v1)(c2:w.cell? ⟨b,off+2,none⟩=some v2)(c3:w.cell? ⟨b,off+3,none⟩=some v3)(c4:w.cell? ⟨b,off+4,none⟩=some v4)(c5:w.cell? ⟨b,off+5,none⟩=some v5)(c6:w.cell? ⟨b,off+6,none⟩=some v6)(c7:w.cell? ⟨b,off+7,none⟩=some v7)(f0:w.frozen? ⟨b,off,none⟩=false)(f1:w.frozen? ⟨b,off+1,none⟩=false)(f2:w.frozen? ⟨b,off+2,none⟩=false)(f3:w.frozen? ⟨b,off+3,none⟩=false)(f4:w.frozen? ⟨b,off+4,none⟩=false)(f5:w.frozen? ⟨b,off+5,none⟩=false)(f6:w.frozen? ⟨b,off+6,none⟩=false)(f7:w.frozen? ⟨b,off+7,none⟩=false):Calls prog 231 #[.slice (some ⟨b,off,none⟩) 8 cap,.int .u64 x] w fun e w'=>e=.returned (.tuple #[]) ∧ w'=(((((((w.setCell ⟨b,off,none⟩ (.int .u8 (x%256))).setCell ⟨b,off+1,none⟩ (.int .u8 (x/256%256))).setCell ⟨b,off+2,none⟩ (.int .u8 (x/65536%256))).setCell ⟨b,off+3,none⟩ (.int .u8 (x/16777216%256))).setCell ⟨b,off+4,none⟩ (.int .u8 (x/4294967296%256))).setCell ⟨b,off+5,none⟩ (.int .u8 (x/1099511627776%256))).setCell ⟨b,off+6,none⟩ (.int .u8 (x/281474976710656%256))).setCell ⟨b,off+7,none⟩ (.int .u8 (x/72057594037927936%256)):=by
 go_enter func231,ntmps231;go_wp2
 go_end0
 exact⟨rfl,rfl⟩
theorem OC(b off cap n:Nat)(x:Int)(s:Nat→Int)(t:TypeId)(w:World)(hg:ArrAt w b .u8 t n s)(ho:off+8≤n):Calls prog 231 #[.slice (some ⟨b,off,none⟩) 8 cap,.int .u64 x] w fun e w'=>e=.returned (.tuple #[])∧ArrAt w' b .u8 t n (over s off 8 (AM x))∧Only b w w':=by
 refine(Mh b off cap x _ _ _ _ _ _ _ _ w (hg.cell _ (by omega)) (hg.cell _ (by omega)) (hg.cell _ (by omega)) (hg.cell _ (by omega)) (hg.cell _ (by omega)) (hg.cell _ (by omega)) (hg.cell _ (by omega)) (hg.cell _ (by omega)) (hg.free _) (hg.free _) (hg.free _) (hg.free _) (hg.free _) (hg.free _) (hg.free _) (hg.free _)).mono ?_;rintro e w' ⟨rfl,rfl⟩;refine⟨rfl,?_,((((((((Only.refl b w).setCell _ _).setCell _ _).setCell _ _).setCell _ _).setCell _ _).setCell _ _).setCell _ _).setCell _ _⟩;refine((((((((hg.set off _ (by omega)).set (off+1) _ (by omega)).set (off+2) _ (by omega)).set (off+3) _ (by omega)).set (off+4) _ (by omega)).set (off+5) _ (by omega)).set (off+6) _ (by omega)).set (off+7) _ (by omega)).congr ?_;intro i _;unfold over upd AM
 by_cases h:off≤i∧i<off+8
 ·obtain⟨k,rfl⟩:∃k,i=off+k:=⟨i-off,by omega⟩
  have hk:k<8:=by omega
  rw[if_pos h,Ac0]
  match k,hk with
  | 0,_=>simp
  | 1,_=>simp
  | 2,_=>simp
  | 3,_=>simp
  | 4,_=>simp
  | 5,_=>simp
  | 6,_=>simp
  | 7,_=>simp
 ·rw[if_neg h]
  rw[if_neg (by omega),if_neg (by omega),if_neg (by omega),if_neg (by omega),if_neg (by omega),if_neg (by omega),if_neg (by omega),if_neg (by omega)]
theorem Qe(lo hi:Int)(hl:U64 lo)(i:Nat)(h:i<16):over (over (fun _=>0) 0 8 (AM lo)) 8 8 (AM hi) i=AM (lo+18446744073709551616*hi) i:=by
 unfold U64 at hl;have e:(18446744073709551616:Int)=256 ^ 8:=by decide
 unfold over
 by_cases h8:8≤i
 ·rw[if_pos (by omega)]
  obtain⟨k,rfl⟩:∃k,i=8+k:=⟨i-8,by omega⟩;rw[Ac0];unfold AM;rw[Ac2,←e,←AcO (by omega),AcS _ _ (by omega),Int.ediv_eq_zero_of_lt hl.1 hl.2,Int.zero_add]
 ·rw[if_neg (by omega),if_pos (by omega)]
  rw[Nat.sub_zero];have hd:=Qc lo hi i (by omega);rw[hd]
theorem MK(x s:Nat→Int)(w:World)(hx:Sm x)(hs0:U64 (s 0))(hs1:U64 (s 1)):Calls prog 224 #[.agg (WA .u64 5 x),.agg (WA .u64 2 s)] w fun e w'=>e=.returned (.agg (WA .u8 16 (AM ((qv x 5%P130+(s 0+18446744073709551616*s 1))%340282366920938463463374607431768211456))))∧Below w.heap.size w w':=by
 have g0:ArrAt (((w.alloc (.cells (WA .u64 5 x) 247)).alloc (.cells (WA .u64 2 s) 249)).alloc (.cells (WA .u8 16 fun _=>0) 54)) w.heap.size .u64 247 5 x:=A6 w _ _ _;have g1:ArrAt (((w.alloc (.cells (WA .u64 5 x) 247)).alloc (.cells (WA .u64 2 s) 249)).alloc (.cells (WA .u8 16 fun _=>0) 54)) (w.heap.size+1) .u64 249 2 s:=AB w _ _ _;have g2:ArrAt (((w.alloc (.cells (WA .u64 5 x) 247)).alloc (.cells (WA .u64 2 s) 249)).alloc (.cells (WA .u8 16 fun _=>0) 54)) (w.heap.size+1+1) .u8 54 16 (fun _=>0):=AK w _ _ _;have hB:Below w.heap.size w (((w.alloc (.cells (WA .u64 5 x) 247)).alloc (.cells (WA .u64 2 s) 249)).alloc (.cells (WA .u8 16 fun _=>0) 54)):=(((Below.refl _ w).alloc (by simp) _).alloc (by simp) _).alloc (by simp;omega) _;go_enter func224,ntmps224
 go_wp2_with (refine Aq isL g0 (by rfl) ?_)
 refine(Qb x _ hx).mono ?_;rintro e v1 ⟨z,hz,hq,rfl,hb⟩;replace g0:=g0.kept hb;replace g1:=g1.kept hb;replace g2:=g2.kept hb;replace hB:=hB.trans (hb.mono hB.size);clear hb
 go_wp2_with (refine A1 isL g0 (by rfl) (by rfl) ?_;intro v2 g3 o2;refine Hid.out ?_)
 replace g0:=g3;replace g1:=g1.only o2 (by omega);replace g2:=g2.only o2 (by omega);replace hB:=hB.trans (o2.below (Acg _));clear o2 g3;have c0:=g0.cell 0 (by decide);have c1:=g0.cell 1 (by decide);have c2:=g0.cell 2 (by decide);have c3:=g0.cell 3 (by decide);have c4:=g0.cell 4 (by decide);have d0:=g1.cell 0 (by decide);have d1:=g1.cell 1 (by decide);have z0:=hz 0 (by decide);have z1:=hz 1 (by decide);have z2:=hz 2 (by decide);have z3:=hz 3 (by decide);have z4:=hz 4 (by decide);rw[qv5] at hq;have e1:=w64 (z:=z 1*67108864) (by omega) (by omega);have e2:IntKind.u64.wrap (z 2*4503599627370496)=(z 2%4096)*4503599627370496:=by rw[IntKind.wrap_u64];omega
 have e3:bits BinOp.or IntKind.u64 (z 0) (z 1*67108864)=z 0+z 1*67108864:=Bz _ _ 26 (by omega) (by omega) (by omega) (by omega);have e4:bits BinOp.or IntKind.u64 (z 0+z 1*67108864) ((z 2%4096)*4503599627370496)=z 0+z 1*67108864+(z 2%4096)*4503599627370496:=Bz _ _ 52 (by omega) (by omega) (by omega) (by omega);have e5:=w64 (z:=z 3*16384) (by omega) (by omega);have e6:IntKind.u64.wrap (z 4*1099511627776)=(z 4%16777216)*1099511627776:=by rw[IntKind.wrap_u64];omega
 have e7:bits BinOp.or IntKind.u64 (z 2/4096) (z 3*16384)=z 2/4096+z 3*16384:=Bz _ _ 14 (by omega) (by omega) (by omega) (by omega);have e8:bits BinOp.or IntKind.u64 (z 2/4096+z 3*16384) ((z 4%16777216)*1099511627776)=z 2/4096+z 3*16384+(z 4%16777216)*1099511627776:=Bz _ _ 40 (by omega) (by omega) (by omega) (by omega);obtain⟨lo,ca,hlo,r1⟩:=Dj (x:=z 0+z 1*67108864+(z 2%4096)*4503599627370496) (y:=s 0) (c:=0) (by unfold U64;omega) hs0 (Or.inl rfl);obtain⟨hi,cb,hhi,r2⟩:=Dj (x:=z 2/4096+z 3*16384+(z 4%16777216)*1099511627776) (y:=s 1) (c:=ca) (by unfold U64;omega) hs1 hlo.2.1
 have HM:Hid ((qv x 5%P130+(s 0+18446744073709551616*s 1))%340282366920938463463374607431768211456=lo+18446744073709551616*hi):=Hid.mk (by
  obtain⟨p1,p2,p3⟩:=hlo;obtain⟨q1,q2,q3⟩:=hhi;unfold U64 at *;unfold Bit at *;rw[←hq];omega)
 have hlo':=Hid.mk hlo.1;have gn:∀o,o=Obj.cells (WA .u8 16 fun _=>0) 54 (0,0)→ArrAt (v2.alloc o) v2.heap.size .u8 54 16 (fun _=>0):=fun o ho=>by rw[ho];exact heap_alloc_new v2 _
 have hz2:=g2.lt;clear hlo hhi z0 z1 z2 z3 z4 hs0 hs1 hq hz hx;refine Hid.mk ?_;go_wp2_with fail;refine(OC v2.heap.size 0 _ 16 lo (fun _=>0) 54 _ (gn _ rfl) (by decide)).mono ?_;rintro e v3 ⟨rfl,g3,o3⟩;replace g2:=(g2.alloc _).only o3 (by omega);have hBS:=hB.size;replace hB:=(hB.alloc (by omega) _).trans (o3.below (by omega));clear o3 gn c0 c1 c2 c3 c4 d0 d1 g0 g1 r1 r2 e1 e2 e3 e4 e5 e6 e7 e8;go_wp2_with fail;refine(OC v2.heap.size 8 _ 16 hi _ 54 _ g3 (by decide)).mono ?_;rintro e v4 ⟨rfl,g4,o4⟩;replace g2:=g2.only o4 (by omega);replace hB:=hB.trans (o4.below (by omega));replace g4:=g4.congr (s':=AM ((qv x 5%P130+(s 0+18446744073709551616*s 1))%340282366920938463463374607431768211456)) (fun i hi=>by rw[HM.out];exact Qe lo _ hlo'.out i hi);clear o4 g3
 go_wp2_with (first | refine Aq Ck g4 (by rfl) ?_ | (refine A1 Ck g2 (by rfl) (by rfl) ?_;intro v5 g5 o5;refine Hid.out ?_))
 refine Hid.mk ?_;go_wp2_with fail;exact bodyPost_ret (AE results224 Ck g5 (by rfl)) rfl ⟨rfl,hB.trans (o5.below (by omega))⟩
def mkd(r:Nat→Int)(n:Nat):Nat→Int:=upd (over (fun _=>0) 0 n r) n 1
def Hu(r:Nat→Int)(n:Nat):Nat→Int:=OA (dval (mkd r n) 8) (dval (fun j=>mkd r n (8+j)) 8) (mkd r n 16)
theorem OE{r:Nat→Int}{n:Nat}(hr:Byts n r)(i:Nat):0≤mkd r n i∧mkd r n i<256:=by
 unfold mkd upd over
 split
 ·omega
 split
 ·exact hr _ (by omega)
 ·show 0≤(0:Int)∧(0:Int)<256
  omega
theorem R8{r:Nat→Int}{n:Nat}(hn:n≤16):0≤mkd r n 16∧mkd r n 16<4:=by
 unfold mkd upd over
 split
 ·omega
 rw[if_neg (by omega)];show 0≤(0:Int)∧(0:Int)<4;omega
theorem Yv(r:Nat→Int){n:Nat}(hn:n≤16):dval (mkd r n) 17=dval r n+256 ^ n:=by
 have h0:over (fun _=>0) 0 n r n=0:=by unfold over;rw[if_neg (by omega)]
 unfold mkd;rw[EP (by omega),h0,D6 (n:=n) (by omega) (fun i h1 _=>by unfold over;rw[if_neg (by omega)])];rw[BW (t:=r) (fun i hi=>by unfold over;rw[if_pos (by omega),Nat.sub_zero])];omega
theorem V9{r:Nat→Int}{n:Nat}(hn:n≤16):qv (Hu r n) 5=dval r n+256 ^ n:=by
 have h:=Df (mkd r n) 8 9;have h2:dval (fun j=>mkd r n (8+j)) 9=dval (fun j=>mkd r n (8+j)) 8+256 ^ 8*mkd r n 16:=rfl;rw[show (8+9:Nat)=17 from rfl,Yv r hn,h2] at h;unfold Hu;rw[OB,h];simp only[AcA];omega
theorem Yw{r:Nat→Int}{n:Nat}(hr:Byts n r)(hn:n≤16):Dg 67108864 5 (Hu r n):=R7 (Dt fun i _=>OE hr i) (Dt fun i _=>OE hr (8+i)) (R8 hn)
theorem E5(args:Array Value)(w:World):(callFunc 221 args).run prog w=.ok (.enter 221 args) w:=by kernel_rfl
theorem KT(args:Array Value)(w:World):(callFunc 220 args).run prog w=.ok (.enter 220 args) w:=by kernel_rfl
theorem AaZ:Tryz.prog.arrayLen 262=17:=by kernel_rfl
theorem Yx(w:World):(sizeOf (Tryz.prog.elem 262)).run prog w=.ok 1 w:=by kernel_rfl
theorem Aba(b:Nat)(w:World):(Instr.sliceAt 262 (.pointer (some ⟨b,0,none⟩)) none (some (.int .i64 8)) none).run prog w=.ok (.slice (some ⟨b,0,none⟩) 8 17) w:=by simp[go_sem]
theorem Abb(b:Nat)(w:World):(Instr.sliceAt 262 (.pointer (some ⟨b,0,none⟩)) (some (.int .i64 8)) (some (.int .i64 16)) none).run prog w=.ok (.slice (some ⟨b,8,none⟩) 8 9) w:=by simp[go_sem]
theorem Yy{n:Int}(h:0≤n∧n<256)(w:World):(convert 5 98 (.int .u8 n)).run prog w=.ok (.int .u64 n) w:=by
 simp[go_sem,w64 (z:=n) (by omega) (by omega)]
theorem Yz{ops:Array Oper}{rest:List Oper}{dt:Option Tmp}{d s':Operand}{ty:TypeId}{ps:String}{af:Array Edge}{a:Act}{w:World}{Q:Exit→Act→World→Prop}{g off dL dC b f sL sC n m:Nat}{t:TypeId}{s r:Nat→Int}(hd:a.eval d=.slice (some ⟨g,off,none⟩) dL dC)(hs:a.eval s'=.slice (some ⟨b,f,none⟩) sL sC)(hg:ArrAt w g .u8 t n s)(hm:m=Nat.min sL dL)(hfit:off+m≤n)(hr:∀j,j<m→w.cell? ⟨b,f+j,none⟩=some (.int .u8 (r j)))(h:∀w',ArrAt w' g .u8 t n (over s off m r)→Only g w w'→wpList prog ops Q rest (a.put dt (goInt m)) w'):wpList prog ops Q ({ dst:=dt,op:=.call { callee:=.builtin .copy,args:=#[d,s'],argTypes:=#[81,81] },type:=ty,pos:=ps,after:=af,guard:=none }::rest) a w:=
 CZ rfl (EH rfl hd hs hg hm hfit hr h)
theorem NH(b f n c:Nat)(r:Nat→Int)(w:World)(hn:n≤16)(hr:Byts n r)(hc:∀j,j<n→w.cell? ⟨b,f+j,none⟩=some (.int .u8 (r j)))(hb:b<w.heap.size):Calls prog 229 #[.slice (some ⟨b,f,none⟩) n c] w fun e w'=>e=.returned (.agg (WA .u64 5 (Hu r n)))∧Below w.heap.size w w':=by
 have g0:ArrAt ((w.alloc (.cells (WA .u64 5 fun _=>0) 247)).alloc (.cells (WA .u8 17 fun _=>0) 262)) w.heap.size .u64 247 5 (fun _=>0):=heap_alloc2_old w _ _;have g1:ArrAt ((w.alloc (.cells (WA .u64 5 fun _=>0) 247)).alloc (.cells (WA .u8 17 fun _=>0) 262)) (w.heap.size+1) .u8 262 17 (fun _=>0):=heap_alloc2_new w _ _;have hB:Below w.heap.size w ((w.alloc (.cells (WA .u64 5 fun _=>0) 247)).alloc (.cells (WA .u8 17 fun _=>0) 262)):=((Below.refl _ w).alloc (by simp) _).alloc (by simp) _;have hc2:∀j,j<n→(((w.alloc (.cells (WA .u64 5 fun _=>0) 247)).alloc (.cells (WA .u8 17 fun _=>0) 262)):World).cell? ⟨b,f+j,none⟩=some (.int .u8 (r j)):=fun j hj=>(hB.cell hb).trans (hc j hj)
 have HM8:Hid (Byts 8 (mkd r n)):=Hid.mk (fun i _=>OE hr i);have HM16:Hid (Byts 8 (fun j=>mkd r n (8+j))):=Hid.mk (fun i _=>OE hr (8+i));have HT:=Hid.mk (OE hr 16);have HT4:=Hid.mk (R8 (r:=r) hn);have hnL:(n:Int)<17:=by omega
 clear hc;go_enter func229,ntmps229
 go_wp2_with (refine Yz (by rfl) (by rfl) g1 (m:=n) (r:=r) (by show n=min n 17;omega) (by omega) hc2 ?_;intro v1 g2 o2;refine Hid.out ?_)
 replace g0:=g0.only o2 (by omega);replace hB:=hB.trans (o2.below (by omega));clear o2 g1 hc2;have c1:=g2.cell n (by omega);have f1:=g2.free n;have g1:=g2.set n 1 (by omega);replace g0:=g0.other (g:=(w.heap.size+1)) (i:=n) (.int .u8 1) (by omega);replace hB:=Below.setCell (p:=⟨(w.heap.size+1),n,none⟩) hB (by simp) (.int .u8 1);clear g2;refine Hid.mk ?_;go_wp2_with fail;clear c1 f1;refine AJ (fun v=>ArrAt v w.heap.size .u64 247 5 (fun _=>0)∧ArrAt v (w.heap.size+1) .u8 262 17 (mkd r n)∧Below w.heap.size w v) ⟨g0,g1,hB⟩ ?_;clear g0 g1 hB;rintro v2 ⟨g0,g1,hB⟩;refine Ai (Below w.heap.size w) v2.heap.size
  [((w.heap.size+1),AQ (WA .u8 17 (mkd r n)) 262),(w.heap.size,once (WA .u64 5 (fun _=>0)) 247 8 (WA .u64 5 (Hu r n)))]
  [kv (.slice (some ⟨(w.heap.size+1),0,none⟩) 8 17),kv (.int .u64 (dval (mkd r n) 8)),kv (.slice (some ⟨(w.heap.size+1),8,none⟩) 8 9),kv (.int .u64 (dval (fun j=>mkd r n (8+j)) 8)),kv (.pointer (some ⟨(w.heap.size+1),16,none⟩)),kv (.int .u8 (mkd r n 16)),kv (.int .u64 (mkd r n 16)),kv (.agg (WA .u64 5 (Hu r n))),.val fun _=>True]
  [.none,.none,.none,.none,.none,.none,.none,.none,.base 1 1]
  [some 10,some 11,some 12,some 13,some 14,some 15,some 16,some 17,none]
  [(3,.pointer (some ⟨(w.heap.size+1),0,none⟩)),(2,.pointer (some ⟨w.heap.size,0,none⟩))]
  [[],[.slot 0,.base 0 0],[],[.slot 2,.base 0 0],[],[.slot 4,.base 0 0],[.slot 5],[.slot 1,.slot 3,.slot 6],[.base 1 0,.slot 7]]
  [.base 0 0,.base 1 1] [10,11,12,13,14,15,16,17]
  rfl (by kernel_rfl) ⟨rfl,rfl,trivial⟩ (Below.drew hB) (Acg _) ⟨⟨g1.lt,Al g1⟩,⟨g0.lt,Al g0⟩,trivial⟩ ⟨⟨(show ((w.heap.size+1):Nat)≠w.heap.size from by omega),trivial⟩,trivial,trivial⟩ (A8 hB.size ⟨by omega,by omega,trivial⟩)
  ⟨
   sL fun f _=>sV (Dp rfl f.1 rfl (Aba _ _)),
   (fun _ _ ww _ _ _ _ kn=>.inl ⟨trivial,fun K hK=>AH E5 rfl (BI kn.1) (E4 (w.heap.size+1) 0 17 (mkd r n) ww HM8.out (fun j hj=>by rw[Acl];exact ArrAt.cell (Ak kn.2.1) j (by omega))) (fun w' hb=>hK _ _ ⟨Ac hb,rfl⟩)⟩),
   sL fun f _=>sV (C4 rfl f.1 rfl rfl (Abb _ _)),
   (fun _ _ ww _ _ _ _ kn=>.inl ⟨trivial,fun K hK=>AH E5 rfl (BI kn.1) (E4 (w.heap.size+1) 8 9 (fun j=>mkd r n (8+j)) ww HM16.out (fun j hj=>ArrAt.cell (Ak kn.2.1) (8+j) (by omega))) (fun w' hb=>hK _ _ ⟨Ac hb,rfl⟩)⟩),
   sL fun f _=>sV (Ev (i:=16) rfl underlying262 AaZ Yx f.1 rfl (by decide)),
   sL fun _ k=>sV (At rfl k.1 (D3 (ArrAt.cell (Ak k.2.1) 16 (by decide)))),
   sL fun _ k=>sV (AF rfl k.1 (Yy HT.out _)),
   (fun _ _ ww _ _ _ _ kn=>.inl ⟨trivial,fun K hK=>AH KT rfl (Gu kn.1 kn.2.1 kn.2.2.1) (JT _ _ _ ww (Dt HM8.out) (Dt HM16.out) HT4.out) (fun w' hb=>hK _ _ ⟨Ac hb,rfl⟩)⟩),
   sL fun f k=>.inl ⟨trivial,fun K hK=>Bs rfl isL f.2.1 k.2.1 (Ak k.1) (fun w2 hg ho=>hK _ _ ⟨⟨Ag ho,Al hg⟩,trivial⟩)⟩,
   trivial⟩ ?_
 intro vs own v3 hB3 hs3 kn inj;clear inj hs3 g0 g1 hB;have g0:ArrAt v3 w.heap.size .u64 247 5 (Hu r n):=Ak kn.2.1;clear kn;simp only[Am,Act.put,Aci,Acj,Ach];go_wp2_with fail;exact bodyPost_ret (AE results229 isL g0 (by rfl)) rfl ⟨rfl,hB3⟩
def Hv(R S Z H:Nat→Int)(l:Int)(i:Nat):Value:=if i<5 then .int .u64 (R i) else if i<7 then .int .u64 (S (i-5)) else if i<12 then .int .u64 (Z (i-7)) else if i<28 then .int .u8 (H (i-12)) else .int .i64 l
def Mi(R S Z H:Nat→Int)(l:Int):Array Value:=((Aco 29).map (Hv R S Z H l)).toArray
theorem J6(R S Z H:Nat→Int)(l:Int):(Mi R S Z H l).size=29:=by simp[Mi]
theorem KU(R S Z H:Nat→Int)(l:Int)(i:Nat)(h:i<29):(Mi R S Z H l)[i]?=some (Hv R S Z H l i):=by simp[Mi,h]
theorem VA{cs:Array Value}{R S Z H:Nat→Int}{l:Int}(hs:cs.size=29)(h:∀i,i<29→cs[i]?=some (Hv R S Z H l i)):cs=Mi R S Z H l:=by
 apply AcK;intro i
 by_cases hi:i<29
 ·rw[h i hi,KU R S Z H l i hi]
 ·rw[Acv (by omega),Acv (by rw[J6];omega)]
def MacAt(w:World)(b:Nat)(R S Z H:Nat→Int)(l:Int):Prop:=w.heap[b]?=some (.cells (Mi R S Z H l) 251 (0,0))
theorem MacAt.at{w:World}{b:Nat}{R S Z H:Nat→Int}{l:Int}(h:MacAt w b R S Z H l)(i:Nat)(hi:i<29):w.cell? ⟨b,i,none⟩=some (Hv R S Z H l i):=by
 rw[cell_of_row w b i _ _ _ h,KU R S Z H l i hi]
theorem MacAt.free{w:World}{b:Nat}{R S Z H:Nat→Int}{l:Int}(h:MacAt w b R S Z H l)(i:Nat):w.frozen? ⟨b,i,none⟩=false:=frozen_of_row w b i _ _ h
theorem MacAt.lt{w:World}{b:Nat}{R S Z H:Nat→Int}{l:Int}(h:MacAt w b R S Z H l):b<w.heap.size:=Aa h
theorem MacAt.block{w w':World}{b:Nat}{R S Z H:Nat→Int}{l:Int}(h:MacAt w b R S Z H l)(e:w'.heap[b]?=w.heap[b]?):MacAt w' b R S Z H l:=e.trans h
theorem MacAt.kept{w w':World}{b:Nat}{R S Z H:Nat→Int}{l:Int}(h:MacAt w b R S Z H l)(hb:Below w.heap.size w w'):MacAt w' b R S Z H l:=h.block (hb.block b h.lt)
theorem MacAt.below{B:Nat}{w w':World}{b:Nat}{R S Z H:Nat→Int}{l:Int}(h:MacAt w b R S Z H l)(hb:Below B w w')(hB:b<B):MacAt w' b R S Z H l:=h.block (hb.block b hB)
theorem MacAt.alloc{w:World}{b:Nat}{R S Z H:Nat→Int}{l:Int}(h:MacAt w b R S Z H l)(o:Obj):MacAt (w.alloc o) b R S Z H l:=h.block (Below.heap_alloc _ _ _ h.lt)
theorem MacAt.drew{w:World}{b:Nat}{R S Z H:Nat→Int}{l:Int}(h:MacAt w b R S Z H l):MacAt w.drew b R S Z H l:=h
theorem MacAt.r{w:World}{b:Nat}{R S Z H:Nat→Int}{l:Int}(h:MacAt w b R S Z H l):w.rangeAt b 0 (AC .u64 5 R):=fun j v hj=>by
 obtain⟨hj2,rfl⟩:=B6 hj;rw[Acl,h.at j (by omega)];unfold Hv;rw[if_pos hj2]
theorem MacAt.s{w:World}{b:Nat}{R S Z H:Nat→Int}{l:Int}(h:MacAt w b R S Z H l):w.rangeAt b 5 (AC .u64 2 S):=fun j v hj=>by
 obtain⟨hj2,rfl⟩:=B6 hj;rw[h.at (5+j) (by omega)];unfold Hv;rw[if_neg (by omega),if_pos (by omega),Ac0]
theorem MacAt.sum{w:World}{b:Nat}{R S Z H:Nat→Int}{l:Int}(h:MacAt w b R S Z H l):w.rangeAt b 7 (AC .u64 5 Z):=fun j v hj=>by
 obtain⟨hj2,rfl⟩:=B6 hj;rw[h.at (7+j) (by omega)];unfold Hv;rw[if_neg (by omega),if_neg (by omega),if_pos (by omega),Ac0]
theorem MacAt.rest{w:World}{b:Nat}{R S Z H:Nat→Int}{l:Int}(h:MacAt w b R S Z H l)(j:Nat)(hj:j<16):w.cell? ⟨b,12+j,none⟩=some (.int .u8 (H j)):=by
 rw[h.at (12+j) (by omega)];unfold Hv;rw[if_neg (by omega),if_neg (by omega),if_neg (by omega),if_pos (by omega),Ac0]
theorem MacAt.held{w:World}{b:Nat}{R S Z H:Nat→Int}{l:Int}(h:MacAt w b R S Z H l):w.cell? ⟨b,28,none⟩=some (.int .i64 l):=h.at 28 (by decide)
theorem MacAt.cells{w:World}{b o:Nat}{R S Z H:Nat→Int}{l:Int}(h:MacAt w b R S Z H l)(vs:List Value)(hl:o+vs.length≤29){R' S' Z' H':Nat→Int}{l':Int}(h1:∀j,j<vs.length→vs[j]?=some (Hv R' S' Z' H' l' (o+j)))(h2:∀i,i<29→i<o∨o+vs.length≤i→Hv R' S' Z' H' l' i=Hv R S Z H l i):MacAt (w.setCells b o vs) b R' S' Z' H' l'∧Only b w (w.setCells b o vs):=by
 obtain⟨C',k1,k2,k3,k4,k5⟩:=BE vs o w _ h (by rw[J6];exact hl);refine⟨?_,k5⟩
 have e:C'=Mi R' S' Z' H' l':=by
  refine VA (by rw[k2,J6]) (fun i hi=>?_)
  by_cases c:i<o∨o+vs.length≤i
  ·rw[k4 i c,KU _ _ _ _ _ i hi,h2 i hi c]
  ·have:=k3 (i-o) (by omega)
   rw[show o+(i-o)=i by omega] at this;rw[this,h1 (i-o) (by omega),show o+(i-o)=i by omega]
 unfold MacAt;rw[←e];exact k1
theorem MacAt.setSum{w:World}{b:Nat}{R S Z H:Nat→Int}{l:Int}(h:MacAt w b R S Z H l)(Z':Nat→Int):MacAt (w.setCells b 7 (AC .u64 5 Z')) b R S Z' H l∧Only b w (w.setCells b 7 (AC .u64 5 Z')):=by
 refine h.cells (AC .u64 5 Z') (by rw[A3];omega) (fun j hj=>?_) (fun i hi hc=>?_)
 ·rw[A3] at hj
  rw[BC .u64 5 Z' hj];unfold Hv;rw[if_neg (by omega),if_neg (by omega),if_pos (by omega),Ac0]
 ·rw[A3] at hc
  unfold Hv
  split
  ·rfl
  split
  ·rfl
  split
  ·omega
  ·rfl
theorem MacAt.setRest{w:World}{b:Nat}{R S Z H:Nat→Int}{l:Int}(h:MacAt w b R S Z H l)(o m:Nat)(r:Nat→Int)(hm:o+m≤16):MacAt (w.setCells b (12+o) (AC .u8 m r)) b R S Z (over H o m r) l∧Only b w (w.setCells b (12+o) (AC .u8 m r)):=by
 refine h.cells (AC .u8 m r) (by rw[A3];omega) (fun j hj=>?_) (fun i hi hc=>?_)
 ·rw[A3] at hj
  rw[BC .u8 m r hj];unfold Hv over;rw[if_neg (by omega),if_neg (by omega),if_neg (by omega),if_pos (by omega),if_pos (by omega),show 12+o+j-12-o=j by omega]
 ·rw[A3] at hc
  unfold Hv over
  split
  ·rfl
  split
  ·rfl
  split
  ·rfl
  split
  ·rw[if_neg (by omega)]
  ·rfl
theorem MacAt.setHeld{w:World}{b:Nat}{R S Z H:Nat→Int}{l:Int}(h:MacAt w b R S Z H l)(l':Int):MacAt (w.setCell ⟨b,28,none⟩ (.int .i64 l')) b R S Z H l':=by
 have h1:=(h.cells (o:=28) [.int .i64 l'] (by simp) (R':=R) (S':=S) (Z':=Z) (H':=H) (l':=l') (fun j hj=>by
  have:j=0:=by simpa using hj
  subst this
  rfl) (fun i hi hc=>by
   simp at hc;unfold Hv
   split
   ·rfl
   split
   ·rfl
   split
   ·rfl
   split
   ·rfl
   ·omega)).1
 exact h1
theorem Aah(b k:Nat)(w:World):k<5→(Instr.fieldAt 251 (.pointer (some ⟨b,0,none⟩)) k).run prog w=.ok (.pointer (some ⟨b,[0,5,7,12,28].getD k 0,none⟩)) w:=by
 intro hk
 match k,hk with
 | 0,_=>simp[go_sem]
 | 1,_=>simp[go_sem]
 | 2,_=>simp[go_sem]
 | 3,_=>simp[go_sem]
 | 4,_=>simp[go_sem]
theorem Hg{a:Act}{o:Oper}{w:World}{x:Operand}{k:Nat}(ho:o.op=.fieldAddr 251 x k){b:Nat}(hx:a.eval x=.pointer (some ⟨b,0,none⟩))(hk:k<5):(execOp a.eval o).run prog w=.ok (.value (.pointer (some ⟨b,[0,5,7,12,28].getD k 0,none⟩))) w:=by
 have h:=Aah b k w hk;unfold execOp;simp only[ho,hx,Sem.run_bind,h,Result.andThen_ok,Sem.run_pure]
theorem OG(args:Array Value)(w:World):(callFunc 229 args).run prog w=.ok (.enter 229 args) w:=by kernel_rfl
theorem Tn(args:Array Value)(w:World):(callFunc 228 args).run prog w=.ok (.enter 228 args) w:=by kernel_rfl
theorem Qf(args:Array Value)(w:World):(callFunc 227 args).run prog w=.ok (.enter 227 args) w:=by kernel_rfl
theorem OH(args:Array Value)(w:World):(callFunc 223 args).run prog w=.ok (.enter 223 args) w:=by kernel_rfl
theorem ML(args:Array Value)(w:World):(callFunc 224 args).run prog w=.ok (.enter 224 args) w:=by kernel_rfl
theorem To(x y:Nat→Int)(w:World)(hx:Dg 4611686018427387904 5 x)(hy:Dg 4611686018427387904 5 y):Calls prog 228 #[.agg (WA .u64 5 x),.agg (WA .u64 5 y)] w fun e w'=>e=.returned (.agg (WA .u64 5 fun i=>x i+y i))∧Below w.heap.size w w':=by
 have g0:ArrAt (((w.alloc (.cells (WA .u64 5 x) 247)).alloc (.cells (WA .u64 5 y) 247)).alloc (.cells (WA .u64 5 fun _=>0) 247)) w.heap.size .u64 247 5 x:=A6 w _ _ _;have g1:ArrAt (((w.alloc (.cells (WA .u64 5 x) 247)).alloc (.cells (WA .u64 5 y) 247)).alloc (.cells (WA .u64 5 fun _=>0) 247)) (w.heap.size+1) .u64 247 5 y:=AB w _ _ _;have g2:ArrAt (((w.alloc (.cells (WA .u64 5 x) 247)).alloc (.cells (WA .u64 5 y) 247)).alloc (.cells (WA .u64 5 fun _=>0) 247)) (w.heap.size+1+1) .u64 247 5 (fun _=>0):=AK w _ _ _;have hB:Below w.heap.size w (((w.alloc (.cells (WA .u64 5 x) 247)).alloc (.cells (WA .u64 5 y) 247)).alloc (.cells (WA .u64 5 fun _=>0) 247)):=(((Below.refl _ w).alloc (by simp) _).alloc (by simp) _).alloc (by simp;omega) _;go_enter func228,ntmps228;go_wp2_with fail
 go_loopg [6] 5 (fun gm iv v=>∃i:Nat,Hid (gm+i=5)∧iv=.int .i64 (i:Int)∧ArrAt v w.heap.size .u64 247 5 (NG x y i)∧ArrAt v (w.heap.size+1) .u64 247 5 y∧ArrAt v (w.heap.size+1+1) .u64 247 5 (fun _=>0)∧Below w.heap.size w v)
 case atStart=>exact⟨0,Hid.mk rfl,rfl,g0.congr (fun j _=>by unfold NG;rw[if_neg (by omega)]),g1,g2,hB⟩
 case round =>
  clear g0 g1 g2 hB;obtain⟨i,HI,rfl,g0,g1,g2,hB⟩:=hrel;have hi5:i≤5:=by have:=HI.out;omega
  by_cases hil:i<5
  ·have ck:=g0.cell i (by omega)
   have fr:=g0.free i;have cy:=g1.cell i (by omega);have hxi:=hx i hil;have hyi:=hy i hil;have e0:NG x y i i=x i:=by unfold NG;rw[if_neg (by omega)]
   rw[e0] at ck;have hw:=w64 (z:=x i+y i) (by omega) (by omega);have HS:=Hid.mk (Ti x y i);rw[e0] at HS;clear e0;go_wp2_with fail
   go_region
   go_wp2_with fail
   go_roundg (5-(i+1))
   case rel =>
    refine⟨i+1,Hid.mk (by omega),by go_num,?_,g1.other _ (by omega),g2.other _ (by omega),(Below.setCell hB (by simp) _).drew⟩;rw[←HS.out];exact g0.set i _ hil
   case measure=>have:=HI.out;omega
  ·have hi2:i=5:=by omega
   subst hi2;replace g0:=g0.congr (s':=fun i=>x i+y i) (fun j hj=>by unfold NG;rw[if_pos hj])
   go_wp2_with (first | refine Aq isL g0 (by rfl) ?_ | (refine A1 isL g2 (by rfl) (by rfl) ?_;intro w2 g3 o2;refine Hid.out ?_))
   refine Hid.mk ?_;go_wp2_with fail;refine bodyPost_ret (v:=.agg (WA .u64 5 fun i=>x i+y i)) (AE results228 isL g3 (by rfl)) rfl ⟨rfl,?_⟩;exact hB.trans (o2.below (by omega))
theorem Qg(Z H:Nat→Int)(n:Nat)(hn:n≤16):qv (fun i=>Z i+Hu H n i) 5=qv Z 5+(dval H n+256 ^ n):=by
 rw[V6 Z (Hu H n),V9 hn]
theorem KV(b n c:Nat)(R S Z H:Nat→Int)(l:Int)(w:World)(hM:MacAt w b R S Z H l)(hZ:Sm Z)(hR:Dg 67108864 5 R)(hH:Byts 16 H)(hn:n≤16):Calls prog 223 #[.pointer (some ⟨b,0,none⟩),.slice (some ⟨b,12,none⟩) n c] w fun e w'=>∃z,Sm z∧(∃q,(qv Z 5+(dval H n+256 ^ n))*qv R 5=qv z 5+P130*q)∧e=.returned (.agg (WA .u64 5 z))∧Below w.heap.size w w':=by
 have g0:ArrAt (w.alloc (.cells (WA .u64 5 fun _=>0) 247)) w.heap.size .u64 247 5 (fun _=>0):=heap_alloc_new w _;have hB:Below w.heap.size w (w.alloc (.cells (WA .u64 5 fun _=>0) 247)):=(Below.refl _ w).alloc (Acg _) _;have hlt:=hM.lt;have hHn:Byts n H:=fun i hi=>hH i (by omega)
 have hd:=hZ.dg;have hbd:=Yw hHn hn;have HN:=Hid.mk hn;have HM:Hid (∀v,Below w.heap.size w v→MacAt v b R S Z H l):=Hid.mk (fun v hv=>hM.below hv hlt);have HH:=Hid.mk hHn;have HZ1:Hid (Dg 4611686018427387904 5 Z):=Hid.mk (fun i hi=>by have:=hd i hi;omega);have HB1:Hid (Dg 4611686018427387904 5 (Hu H n)):=Hid.mk (fun i hi=>by have:=hbd i hi;omega);have hq:=Qg Z H n hn
 have HTM:Hid (∀ww:World,Calls prog 227 #[.agg (WA .u64 5 fun i=>Z i+Hu H n i),.agg (WA .u64 5 R)] ww fun e w'=>∃z,Sm z∧(∃q,(qv Z 5+(dval H n+256 ^ n))*qv R 5=qv z 5+P130*q)∧e=.returned (.agg (WA .u64 5 z))∧Below ww.heap.size ww w'):=Hid.mk (fun ww=>by
  rw[←hq];exact Qa _ R ww (fun i hi=>by have h1:=hd i hi;have h2:=hbd i hi;show 0≤Z i+Hu H n i∧Z i+Hu H n i<268435456;omega) hR)
 clear hM hZ hR hH hHn hd hbd hq;go_enter func223,ntmps223;go_wp2_with fail;refine AJ (fun v=>ArrAt v w.heap.size .u64 247 5 (fun _=>0)∧Below w.heap.size w v) ⟨g0,hB⟩ ?_;clear g0 hB;rintro v2 ⟨g0,hB⟩;refine Ai (Below w.heap.size w) v2.heap.size
  [(w.heap.size,⟨Eo (WA .u64 5 fun _=>0) 247,[(12,fun ob=>∃z,Sm z∧(∃q,(qv Z 5+(dval H n+256 ^ n))*qv R 5=qv z 5+P130*q)∧ob=.cells (WA .u64 5 z) 247 (0,0))]⟩)]
  [kv (.pointer (some ⟨b,0,none⟩)),kv (.pointer (some ⟨b,0,none⟩)),kv (.pointer (some ⟨b,7,none⟩)),kv (.agg (WA .u64 5 Z)),kv (.slice (some ⟨b,12,none⟩) n c),kv (.agg (WA .u64 5 (Hu H n))),kv (.agg (WA .u64 5 fun i=>Z i+Hu H n i)),kv (.pointer (some ⟨b,0,none⟩)),kv (.pointer (some ⟨b,0,none⟩)),kv (.pointer (some ⟨b,0,none⟩)),kv (.agg (WA .u64 5 R)),.val fun v=>∃z,Sm z∧(∃q,(qv Z 5+(dval H n+256 ^ n))*qv R 5=qv z 5+P130*q)∧v=.agg (WA .u64 5 z),.val fun _=>True]
  [.none,.none,.none,.none,.none,.none,.none,.none,.none,.none,.none,.none,.base 0 1]
  [some 5,some 6,some 7,some 8,some 9,some 10,some 11,some 12,some 13,some 14,some 15,some 16,none]
  [(0,.pointer (some ⟨b,0,none⟩)),(1,.slice (some ⟨b,12,none⟩) n c),(4,.pointer (some ⟨w.heap.size,0,none⟩))]
  [[],[.slot 0],[.slot 1],[.slot 2],[],[.slot 4],[.slot 3,.slot 5],[],[.slot 7],[.slot 8],[.slot 9],[.slot 6,.slot 10],[.base 0 0,.slot 11]]
  [.base 0 1] [5,6,7,8,9,10,11,12,13,14,15,16]
  rfl (by kernel_rfl) ⟨rfl,rfl,rfl,trivial⟩ (Below.drew hB) (Acg _) ⟨⟨g0.lt,Al g0⟩,trivial⟩ ⟨trivial,trivial⟩ (A8 hB.size ⟨by omega,trivial⟩)
  ⟨
   sL fun f _=>sV (Ab rfl f.1),
   sL fun _ k=>sV (AO rfl k.1),
   sL fun _ kn=>sV (Hg (k:=2) rfl kn.1 (by decide)),
   (fun _ _ ww _ hS _ _ kn=>sV (Ao rfl isL kn.1 (HM.out ww hS).sum)),
   sL fun f _=>sV (Ab rfl f.2.1),
   (fun _ _ ww _ hS _ _ kn=>.inl ⟨trivial,fun K hK=>AH OG rfl (BI kn.1) (NH b 12 n c H ww HN.out HH.out (fun j hj=>(HM.out ww hS).rest j (by have:=HN.out;omega)) (HM.out ww hS).lt) (fun w' hb=>hK _ _ ⟨Ac hb,rfl⟩)⟩),
   (fun _ _ ww _ _ _ _ kn=>.inl ⟨trivial,fun K hK=>AH Tn rfl (CT kn.1 kn.2.1) (To Z (Hu H n) ww HZ1.out HB1.out) (fun w' hb=>hK _ _ ⟨Ac hb,rfl⟩)⟩),
   sL fun f _=>sV (Ab rfl f.1),
   sL fun _ k=>sV (AO rfl k.1),
   sL fun _ kn=>sV (Hg (k:=0) rfl kn.1 (by decide)),
   (fun _ _ ww _ hS _ _ kn=>sV (Ao rfl isL kn.1 (HM.out ww hS).r)),
   (fun _ _ ww _ _ _ _ kn=>.inl ⟨trivial,fun K hK=>KC Qf rfl (CT kn.1 kn.2.1) ((HTM.out ww).mono (fun e w' ⟨z,h1,h2,h3,h4⟩=>⟨_,h3,⟨z,h1,h2,rfl⟩,h4⟩)) (R:=fun v w'=>(∃z,Sm z∧(∃q,(qv Z 5+(dval H n+256 ^ n))*qv R 5=qv z 5+P130*q)∧v=.agg (WA .u64 5 z))∧Below ww.heap.size ww w') (fun v w' ⟨h1,h2⟩=>hK _ _ ⟨Ac h2,h1⟩)⟩),
   sL fun f k=>.inl ⟨trivial,fun K hK=>(by obtain⟨z,h1,h2,h3⟩:=k.2.1;exact Bs rfl isL f.2.2.1 h3 (Ak k.1) (fun w2 hg ho=>hK _ _ ⟨⟨Ag ho,⟨_,hg,z,h1,h2,rfl⟩⟩,trivial⟩))⟩,
   trivial⟩ ?_
 intro vs own v3 hB3 hs3 kn inj;clear inj hs3 g0 hB;obtain⟨ob,hob,z,h1,h2,rfl⟩:=kn.1;have g0:ArrAt v3 w.heap.size .u64 247 5 z:=hob;clear kn;simp only[Am,Act.put,Aci,Acj,Ach];go_wp2_with fail;exact bodyPost_ret (AE results223 isL g0 (by rfl)) rfl ⟨z,h1,h2,rfl,hB3⟩
end Go.Proofs.YthghcjepdhkfdaaGreatDoor
