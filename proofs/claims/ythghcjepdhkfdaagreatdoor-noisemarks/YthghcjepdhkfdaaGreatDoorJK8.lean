/-
  Own text. 2^255 - 19 is a prime, and so a power by p - 1 leaves 1: by Fermat's little theorem and Pocklington's criterion, down a chain of eight primes. No program is named here.
-/
import Derived.Test.YthghcjepdhkfdaaGreatDoorJK7
import Derived.Test.YthghcjepdhkfdaaGreatDoorJK1
import Derived.Test.YthghcjepdhkfdaaGreatDoorJK2
set_option maxHeartbeats 16000000
set_option maxRecDepth 100000
namespace Go.Proofs.YthghcjepdhkfdaaGreatDoor.Fld
def IsPrime (p:Nat):Prop:=2≤p∧∀ d,d ∣ p→d=1∨d=p
theorem exists_prime_dvd:∀ (m n:Nat),n≤m→2≤n→∃ r,IsPrime r∧r ∣ n
 | 0,n,h,h2=>by omega
 | m+1,n,h,h2=>by
  by_cases hp:∀ d,d ∣ n→d=1∨d=n
  ·exact ⟨n,⟨h2,hp⟩,Nat.dvd_refl n⟩
  ·have:∃ d,d ∣ n∧d≠1∧d≠n:=by
    apply Classical.byContradiction
    intro hn
    apply hp
    intro d hd
    by_cases h1:d=1
    ·exact Or.inl h1
    ·by_cases h3:d=n
     ·exact Or.inr h3
     ·exact absurd ⟨d,hd,h1,h3⟩ hn
   obtain ⟨d,hd,h1,h3⟩:=this
   have hle:=Nat.le_of_dvd (by omega) hd
   have hpos:d≠0:=fun h0=>by subst h0;have:=Nat.eq_zero_of_zero_dvd hd;omega
   obtain ⟨r,hr,hrd⟩:=exists_prime_dvd m d (by omega) (by omega)
   exact ⟨r,hr,Nat.dvd_trans hrd hd⟩
theorem prime_coprime {p a:Nat} (hp:IsPrime p) (h:¬ p ∣ a):Nat.Coprime p a:=by
 rcases hp.2 (Nat.gcd p a) (Nat.gcd_dvd_left p a) with h1 | h1
 ·exact h1
 ·exact absurd (h1▸Nat.gcd_dvd_right p a) h
theorem prime_dvd_mul {p a b:Nat} (hp:IsPrime p) (h:p ∣ a*b):p ∣ a∨p ∣ b:=by
 by_cases ha:p ∣ a
 ·exact Or.inl ha
 ·exact Or.inr (Nat.Coprime.dvd_of_dvd_mul_left (prime_coprime hp ha) h)
def ch:Nat→Nat→Nat
 | _,0=>1
 | 0,_+1=>0
 | n+1,k+1=>ch n k+ch n (k+1)
theorem ch_zero (n:Nat):ch n 0=1:=by cases n<;>rfl
theorem ch_succ (n k:Nat):ch (n+1) (k+1)=ch n k+ch n (k+1):=rfl
theorem ch_big:∀ (n k:Nat),n<k→ch n k=0
 | 0,0,h=>by omega
 | 0,k+1,_=>rfl
 | n+1,0,h=>by omega
 | n+1,k+1,h=>by rw[ch_succ,ch_big n k (by omega),ch_big n (k+1) (by omega)]
theorem ch_self:∀ n:Nat,ch n n=1
 | 0=>rfl
 | n+1=>by rw[ch_succ,ch_self n,ch_big n (n+1) (by omega)]
theorem ch_absorb:∀ (n k:Nat),(k+1)*ch (n+1) (k+1)=(n+1)*ch n k
 | 0,0=>rfl
 | 0,k+1=>by rw[ch_succ,ch_big 0 (k+1) (by omega),ch_big 0 (k+2) (by omega)];simp
 | n+1,0=>by
  have h1:=ch_absorb n 0
  rw[ch_zero] at h1
  rw[ch_succ,ch_zero]
  omega
 | n+1,k+1=>by
  have h1:=ch_absorb n k
  have h2:=ch_absorb n (k+1)
  rw[ch_succ (n+1) (k+1),Nat.mul_add,h2]
  have h3:(k+1+1)*ch (n+1) (k+1)=(n+1)*ch n k+ch (n+1) (k+1):=by rw[← h1,Nat.add_mul (k+1) 1,Nat.one_mul]
  rw[h3]
  have h4:(n+1+1)*ch (n+1) (k+1)=(n+1)*ch (n+1) (k+1)+ch (n+1) (k+1):=by rw[Nat.add_mul (n+1) 1,Nat.one_mul]
  rw[h4,ch_succ n k,Nat.mul_add]
  omega
def sumN (f:Nat→Nat):Nat→Nat
 | 0=>0
 | m+1=>sumN f m+f m
theorem pascal_sum (x n:Nat):∀ m,sumN (fun k=>ch (n+1) k*x ^ k) (m+1)=sumN (fun k=>ch n k*x ^ k) (m+1)+x*sumN (fun k=>ch n k*x ^ k) m
 | 0=>by simp[sumN,ch_zero]
 | m+1=>by
  have ih:=pascal_sum x n m
  have e1:sumN (fun k=>ch (n+1) k*x ^ k) (m+1+1)=sumN (fun k=>ch (n+1) k*x ^ k) (m+1)+ch (n+1) (m+1)*x ^ (m+1):=rfl
  have e2:sumN (fun k=>ch n k*x ^ k) (m+1+1)=sumN (fun k=>ch n k*x ^ k) (m+1)+ch n (m+1)*x ^ (m+1):=rfl
  have e3:sumN (fun k=>ch n k*x ^ k) (m+1)=sumN (fun k=>ch n k*x ^ k) m+ch n m*x ^ m:=rfl
  rw[e1,ih,e2,ch_succ,Nat.add_mul]
  have e4:x*sumN (fun k=>ch n k*x ^ k) (m+1)=x*sumN (fun k=>ch n k*x ^ k) m+ch n m*x ^ (m+1):=by
   rw[e3,Nat.mul_add,Nat.pow_succ]
   have:x*(ch n m*x ^ m)=ch n m*(x ^ m*x):=by rw[Nat.mul_comm x,Nat.mul_assoc]
   rw[this]
  rw[e4]
  omega
theorem binom (x:Nat):∀ n,sumN (fun k=>ch n k*x ^ k) (n+1)=(x+1) ^ n
 | 0=>by simp[sumN,ch_zero]
 | n+1=>by
  rw[pascal_sum,binom x n]
  have e:sumN (fun k=>ch n k*x ^ k) (n+1+1)=sumN (fun k=>ch n k*x ^ k) (n+1)+ch n (n+1)*x ^ (n+1):=rfl
  have e2:(x+1) ^ (n+1)=(x+1) ^ n*(x+1):=Nat.pow_succ (x+1) n
  rw[e,ch_big n (n+1) (by omega),binom x n,Nat.zero_mul,Nat.add_zero,e2,Nat.mul_add,Nat.mul_one,Nat.mul_comm x]
  omega
theorem prime_dvd_ch {p k:Nat} (hp:IsPrime p) (h0:0<k) (h1:k<p):p ∣ ch p k:=by
 obtain ⟨n,rfl⟩:∃ n,p=n+1:=⟨p-1,by have:=hp.1;omega⟩
 obtain ⟨j,rfl⟩:∃ j,k=j+1:=⟨k-1,by omega⟩
 have h:=ch_absorb n j
 have hd:n+1 ∣ (j+1)*ch (n+1) (j+1):=⟨ch n j,h⟩
 rcases prime_dvd_mul hp hd with h2 | h2
 ·have:=Nat.le_of_dvd (by omega) h2;omega
 ·exact h2
theorem low_sum {p:Nat} (hp:IsPrime p) (x:Nat):∀ m,m<p→sumN (fun k=>ch p k*x ^ k) (m+1)%p=1%p
 | 0,_=>by simp[sumN,ch_zero]
 | m+1,h=>by
  have ih:=low_sum hp x m (by omega)
  have e:sumN (fun k=>ch p k*x ^ k) (m+1+1)=sumN (fun k=>ch p k*x ^ k) (m+1)+ch p (m+1)*x ^ (m+1):=rfl
  have hz:ch p (m+1)*x ^ (m+1)%p=0:=Nat.mod_eq_zero_of_dvd (Nat.dvd_trans (prime_dvd_ch hp (by omega) h) (Nat.dvd_mul_right _ _))
  rw[e,Nat.add_mod,ih,hz,Nat.add_zero,Nat.mod_mod]
theorem freshman {p:Nat} (hp:IsPrime p) (x:Nat):(x+1) ^ p%p=(x ^ p+1)%p:=by
 obtain ⟨n,rfl⟩:∃ n,p=n+1:=⟨p-1,by have:=hp.1;omega⟩
 have e:sumN (fun k=>ch (n+1) k*x ^ k) (n+1+1)=sumN (fun k=>ch (n+1) k*x ^ k) (n+1)+ch (n+1) (n+1)*x ^ (n+1):=rfl
 rw[← binom,e,ch_self,Nat.one_mul,Nat.add_mod,low_sum hp x n (by omega),← Nat.add_mod,Nat.add_comm]
theorem fermat1 {p:Nat} (hp:IsPrime p):∀ x,x ^ p%p=x%p
 | 0=>by have:=hp.1;rw[Nat.zero_pow (by omega)]
 | x+1=>by rw[freshman hp,Nat.add_mod,fermat1 hp x,← Nat.add_mod]
theorem mod_eq_one_of_dvd {p y:Nat} (hp:2≤p) (hy:1≤y) (h:p ∣ y-1):y%p=1:=by
 obtain ⟨k,hk⟩:=h
 have:y=1+p*k:=by omega
 rw[this,Nat.add_mul_mod_self_left,Nat.mod_eq_of_lt (by omega)]
theorem fermat {p a:Nat} (hp:IsPrime p) (h:¬ p ∣ a):a ^ (p-1)%p=1:=by
 have h2:=hp.1
 have ha:0<a:=Nat.pos_of_ne_zero (fun h0=>by subst h0;exact h (Nat.dvd_zero p))
 have hpos:1≤a ^ (p-1):=Nat.pow_pos ha
 apply mod_eq_one_of_dvd h2 hpos
 have h1:=fermat1 hp a
 have e:a ^ p=a*a ^ (p-1):=by
  obtain ⟨n,rfl⟩:∃ n,p=n+1:=⟨p-1,by omega⟩
  rw[Nat.pow_succ,Nat.mul_comm];rfl
 have hd:p ∣ a*(a ^ (p-1)-1):=by
  have h3:a*(a ^ (p-1)-1)=a ^ p-a:=by rw[Nat.mul_sub,Nat.mul_one,e]
  rw[h3]
  exact Nat.dvd_of_mod_eq_zero (Nat.sub_mod_eq_zero_of_mod_eq h1)
 rcases prime_dvd_mul hp hd with h4 | h4
 ·exact absurd h4 h
 ·exact h4
theorem pow_mod_one {b r m:Nat} (h:b ^ m%r=1%r) (k:Nat):b ^ (m*k)%r=1%r:=by
 rw[Nat.pow_mul,Nat.pow_mod,h,← Nat.pow_mod,Nat.one_pow]
theorem pow_gcd {b r:Nat} (m n:Nat):b ^ m%r=1%r→b ^ n%r=1%r→b ^ Nat.gcd m n%r=1%r:=by
 induction m,n using Nat.gcd.induction with
 | H0 n=>intro _ h;simpa using h
 | H1 m n hm ih =>
  intro h1 h2
  rw[Nat.gcd_rec]
  refine ih ?_ h1
  have e:b ^ n=b ^ (m*(n/m))*b ^ (n%m):=by rw[← Nat.pow_add,Nat.div_add_mod]
  rw[e,Nat.mul_mod,pow_mod_one h1,← Nat.mul_mod,Nat.one_mul] at h2
  exact h2
theorem pock_one {n q a r:Nat} (hn:2≤n) (hq:IsPrime q) (hqn:q ∣ n-1) (h1:a ^ (n-1)%n=1) (hg:Nat.gcd (a ^ ((n-1)/q)%n+n-1) n=1) (hr:IsPrime r) (hrn:r ∣ n):q ∣ r-1:=by
 have hr2:=hr.1
 apply Classical.byContradiction
 intro hnd
 have hc:Nat.gcd q (r-1)=1:=prime_coprime hq hnd
 have hb1:(a ^ ((n-1)/q)) ^ q%r=1%r:=by
  rw[← Nat.pow_mul,Nat.div_mul_cancel hqn]
  have h2:a ^ (n-1)%n%r=1%r:=by rw[h1]
  rwa [Nat.mod_mod_of_dvd _ hrn] at h2
 have hrb:¬ r ∣ a ^ ((n-1)/q):=fun hd=>by
  have h3:r ∣ (a ^ ((n-1)/q)) ^ q:=by
   obtain ⟨k,hk⟩:∃ k,q=k+1:=⟨q-1,by have:=hq.1;omega⟩
   rw[show (a ^ ((n-1)/q)) ^ q=(a ^ ((n-1)/q)) ^ (k+1) by rw[← hk],Nat.pow_succ]
   exact Nat.dvd_trans hd (Nat.dvd_mul_left _ _)
  rw[Nat.mod_eq_zero_of_dvd h3,Nat.mod_eq_of_lt (show 1<r by omega)] at hb1
  omega
 have hb2:(a ^ ((n-1)/q)) ^ (r-1)%r=1%r:=by rw[fermat hr hrb,Nat.mod_eq_of_lt (show 1<r by omega)]
 have hb3:=pow_gcd q (r-1) hb1 hb2
 rw[hc,Nat.pow_one,Nat.mod_eq_of_lt (show 1<r by omega)] at hb3
 have hd:r ∣ a ^ ((n-1)/q)%n+n-1:=by
  have h4:a ^ ((n-1)/q)%n%r=1:=by rw[Nat.mod_mod_of_dvd _ hrn];exact hb3
  obtain ⟨k,hk⟩:=hrn
  have h5:=Nat.div_add_mod (a ^ ((n-1)/q)%n) r
  rw[h4] at h5
  refine ⟨a ^ ((n-1)/q)%n/r+k,?_⟩
  rw[Nat.mul_add,← hk]
  omega
 have h6:r ∣ 1:=hg▸Nat.dvd_gcd hd hrn
 have:=Nat.le_of_dvd (by omega) h6
 omega
theorem prime_of_big {n F:Nat} (hn:2≤n) (hF:n<F*F) (h:∀ r,IsPrime r→r ∣ n→F ∣ r-1):IsPrime n:=by
 have big:∀ r,IsPrime r→r ∣ n→F<r:=fun r hr hd=>by
  have h1:=Nat.le_of_dvd (by have:=hr.1;omega) (h r hr hd)
  have:=hr.1
  omega
 obtain ⟨r,hr,m,hm⟩:=exists_prime_dvd n n (Nat.le_refl n) hn
 have hrF:=big r hr ⟨m,hm⟩
 by_cases hm1:m=1
 ·rw[hm1,Nat.mul_one] at hm;rw[hm];exact hr
 ·exfalso
  have hm0:m≠0:=fun h0=>by rw[h0] at hm;omega
  obtain ⟨s,hs,t,ht⟩:=exists_prime_dvd m m (Nat.le_refl m) (by omega)
  have hsF:=big s hs ⟨r*t,by rw[hm,ht,Nat.mul_left_comm]⟩
  have ht0:t≠0:=fun h0=>by rw[h0] at ht;omega
  have hsm:s≤m:=by rw[ht];exact Nat.le_mul_of_pos_right s (by omega)
  have h2:F*F≤r*m:=Nat.mul_le_mul (by omega) (by omega)
  omega
theorem pock1 {n q a:Nat} (hn:2≤n) (hq:IsPrime q) (hqn:q ∣ n-1) (h1:a ^ (n-1)%n=1) (hg:Nat.gcd (a ^ ((n-1)/q)%n+n-1) n=1) (hF:n<q*q):IsPrime n :=
 prime_of_big hn hF (fun _ hr hd=>pock_one hn hq hqn h1 hg hr hd)
theorem pock2 {n q s a:Nat} (hn:2≤n) (hq:IsPrime q) (hs:IsPrime s) (hqs:Nat.gcd q s=1) (hqn:q ∣ n-1) (hsn:s ∣ n-1) (h1:a ^ (n-1)%n=1) (hg:Nat.gcd (a ^ ((n-1)/q)%n+n-1) n=1)
  (hg2:Nat.gcd (a ^ ((n-1)/s)%n+n-1) n=1) (hF:n<(q*s)*(q*s)):IsPrime n :=
 prime_of_big hn hF (fun _ hr hd=>Nat.Coprime.mul_dvd_of_dvd_of_dvd hqs (pock_one hn hq hqn h1 hg hr hd) (pock_one hn hs hsn h1 hg2 hr hd))
def powMod (m:Nat):Nat→Nat→Nat→Nat
 | 0,_,_=>1%m
 | f+1,a,n=>if n=0 then 1%m else if n%2=1 then a*powMod m f (a*a%m) (n/2)%m else powMod m f (a*a%m) (n/2)
theorem powMod_eq (m:Nat):∀ (f a n:Nat),n<2 ^ f→powMod m f a n=a ^ n%m
 | 0,a,n,h=>by simp at h;subst h;simp[powMod]
 | f+1,a,n,h=>by
  have hf:n/2<2 ^ f:=by rw[Nat.pow_succ] at h;omega
  have ih:=powMod_eq m f (a*a%m) (n/2) hf
  have e:(a*a%m) ^ (n/2)%m=a ^ (2*(n/2))%m:=by rw[← Nat.pow_mod,← Nat.pow_two,← Nat.pow_mul]
  unfold powMod
  by_cases h0:n=0
  ·subst h0;simp
  ·rw[if_neg h0,ih,e]
   by_cases h1:n%2=1
   ·rw[if_pos h1,Nat.mul_mod_mod]
    congr 1
    have hn:n=2*(n/2)+1:=by omega
    rw[show a ^ n=a ^ (2*(n/2)+1) by rw[← hn],Nat.pow_succ,Nat.mul_comm]
   ·rw[if_neg h1]
    congr 2
    omega
theorem trial {n B:Nat} (hn:2≤n) (hB:n<B*B) (h:(List.range B).all (fun d=>decide (d<2) || n%d != 0)=true):IsPrime n:=by
 obtain ⟨r,hr,m,hm⟩:=exists_prime_dvd n n (Nat.le_refl n) hn
 have key:∀ d,2≤d→d ∣ n→B≤d:=fun d h2 hd=>by
  rcases Nat.lt_or_ge d B with hlt | hge
  ·have h1:=List.all_eq_true.1 h d (List.mem_range.2 hlt)
   rw[Nat.mod_eq_zero_of_dvd hd] at h1
   simp at h1
   omega
  ·exact hge
 by_cases hm1:m=1
 ·rw[hm1,Nat.mul_one] at hm;rw[hm];exact hr
 ·exfalso
  have hm0:m≠0:=fun h0=>by rw[h0] at hm;omega
  have h1:=key r hr.1 ⟨m,hm⟩
  have h2:=key m (by omega) ⟨r,by rw[hm,Nat.mul_comm]⟩
  have h3:B*B≤r*m:=Nat.mul_le_mul h1 h2
  omega
theorem pr127:IsPrime 127:=trial (B:=12) (by omega) (by omega) (by decide +kernel)
theorem pr103:IsPrime 103:=trial (B:=11) (by omega) (by omega) (by decide +kernel)
theorem pr991:IsPrime 991:=trial (B:=32) (by omega) (by omega) (by decide +kernel)
theorem pr4153:IsPrime 4153:=trial (B:=65) (by omega) (by omega) (by decide +kernel)
theorem pr430751:IsPrime 430751:=trial (B:=657) (by omega) (by omega) (by decide +kernel)
theorem pr569003:IsPrime 569003:=trial (B:=755) (by omega) (by omega) (by decide +kernel)
def pockB (n q:Nat):Bool:=decide ((n-1)%q=0) && decide (powMod n 260 2 (n-1)=1) && decide (Nat.gcd (powMod n 260 2 ((n-1)/q)+n-1) n=1)
theorem pockB_spec {n q:Nat} (hn:n<2 ^ 260) (h:pockB n q=true):q ∣ n-1∧2 ^ (n-1)%n=1∧Nat.gcd (2 ^ ((n-1)/q)%n+n-1) n=1:=by
 simp only[pockB,Bool.and_eq_true,decide_eq_true_eq] at h
 obtain ⟨⟨h1,h2⟩,h3⟩:=h
 rw[powMod_eq n 260 2 (n-1) (by omega)] at h2
 rw[powMod_eq n 260 2 ((n-1)/q) (by have:=Nat.div_le_self (n-1) q;omega)] at h3
 exact ⟨Nat.dvd_of_mod_eq_zero h1,h2,h3⟩
theorem pockA {n q:Nat} (hq:IsPrime q) (hn:(decide (2≤n) && decide (n<2 ^ 260) && decide (n<q*q) && pockB n q)=true):IsPrime n:=by
 simp only[Bool.and_eq_true,decide_eq_true_eq] at hn
 obtain ⟨⟨⟨h2,h3⟩,h4⟩,h5⟩:=hn
 obtain ⟨a,b,c⟩:=pockB_spec h3 h5
 exact pock1 h2 hq a b c h4
theorem pockC {n q s:Nat} (hq:IsPrime q) (hs:IsPrime s) (hn:(decide (2≤n) && decide (n<2 ^ 260) && decide (n<(q*s)*(q*s)) && decide (Nat.gcd q s=1) && pockB n q && pockB n s)=true):IsPrime n:=by
 simp only[Bool.and_eq_true,decide_eq_true_eq] at hn
 obtain ⟨⟨⟨⟨⟨h2,h3⟩,h4⟩,h5⟩,h6⟩,h7⟩:=hn
 obtain ⟨a,b,c⟩:=pockB_spec h3 h6
 obtain ⟨a',_,c'⟩:=pockB_spec h3 h7
 exact pock2 h2 hq hs h5 a a' b c c' h4
theorem pr8574133:IsPrime 8574133:=pockC pr991 pr103 (by decide +kernel)
theorem prA:IsPrime 1919519569386763:=pockC pr8574133 pr127 (by decide +kernel)
theorem prB:IsPrime 2773320623:=pockA pr569003 (by decide +kernel)
theorem prC:IsPrime 72106336199:=pockA prB (by decide +kernel)
theorem prD:IsPrime 75445702479781427272750846543864801:=pockC prA prC (by decide +kernel)
theorem prE:IsPrime 31757755568855353:=pockC pr430751 pr4153 (by decide +kernel)
theorem prF:IsPrime 74058212732561358302231226437062788676166966415465897661863160754340907:=pockC prD prE (by decide +kernel)
theorem prP:IsPrime 57896044618658097711785492504343953926634992332820282019728792003956564819949:=pockA prF (by decide +kernel)
end Go.Proofs.YthghcjepdhkfdaaGreatDoor.Fld
namespace Go.Proofs.YthghcjepdhkfdaaGreatDoor.Fld
open Go.RowKit Go.Proofs
theorem emod_pow (a:Int) (n:Nat):(a%P255) ^ n%P255=a ^ n%P255:=by
 induction n with
 | zero=>simp
 | succ n ih=>rw[Int.pow_succ,Int.pow_succ,Int.mul_emod,ih,Int.emod_emod,← Int.mul_emod]
def invE:Nat:=((-2:Int)%P255).toNat
theorem invE_two:invE+2=57896044618658097711785492504343953926634992332820282019728792003956564819949:=by decide +kernel
def invN (a:Int):Int:=a ^ invE%P255
theorem invN_256 (a:Int):N256 (invN a):=N256.mod _
theorem invN_zero {a:Int} (h:a%P255=0):invN a=0:=by
 unfold invN
 rw[← emod_pow,h]
 obtain ⟨k,hk⟩:∃ k,invE=k+1:=⟨invE-1,by have:=invE_two;omega⟩
 rw[hk,Int.pow_succ,Int.mul_zero]
 rfl
theorem nat_pow_mod (m n:Nat):((m:Int) ^ n)%P255=((m ^ n%57896044618658097711785492504343953926634992332820282019728792003956564819949:Nat):Int):=by
 rw[Int.natCast_emod,Int.natCast_pow]
 rfl
theorem fermat_int {a:Int} (h:a%P255≠0):a ^ (invE+1)%P255=1:=by
 have hr:=mod_lt_P a
 rw[← emod_pow]
 obtain ⟨m,hm⟩:∃ m:Nat,a%P255=(m:Int):=⟨(a%P255).toNat,by omega⟩
 rw[hm] at h hr ⊢
 have hnd:¬ 57896044618658097711785492504343953926634992332820282019728792003956564819949 ∣ m:=fun hd=>by
  have:=Nat.le_of_dvd (by omega) hd
  unfold P255 at hr
  omega
 have hf:=fermat prP hnd
 rw[show 57896044618658097711785492504343953926634992332820282019728792003956564819949-1=invE+1 by have:=invE_two;omega] at hf
 rw[nat_pow_mod,hf]
 rfl
theorem inv_mul {a:Int} (h:a%P255≠0):(a*invN a)%P255=1:=by
 have:=fermat_int h
 unfold invN
 rw[Int.mul_emod,Int.emod_emod,← Int.mul_emod,Int.mul_comm,← Int.pow_succ]
 exact this
def invF (i:Nat):Nat:=[1].getD i 0
def invT (i:Nat):Bool:=i != 3
theorem inv_any (a:Int) (w:World) (hP:PrimeAt w) (ha:N256 a) :
  Calls Tryz.prog 104 #[.agg (BA a)] w fun e w'=>e=.returned (.agg (BA (invN a)))∧Below w.heap.size w w':=by
 have hp0:=primeAt_pos hP
 have HP:=Hid.mk hP
 clear hP
 go_enter Tryz.func104,Tryz.ntmps104
 go_wp2
 refine wp_gen (fun v=>v.heap[w.heap.size]?=some (.cells (BA a) 22 (0,0)) ∧
  (∃ z:Array Value,v.heap[w.heap.size+1]?=some (.cells z 22 (0,0))∧z.size=32)∧Below w.heap.size w v)
  ⟨heap_alloc2_old w _ _,⟨_,heap_alloc2_new w _ _,rfl⟩,by repeat first | exact Below.refl _ _ | refine Below.alloc ?_ (by simp<;>omega) _⟩ ?_
 rintro v0 ⟨ga,⟨z,gz,sz⟩,hB⟩
 refine wp_region_mixS (fun v=>v.heap[w.heap.size]?=some (.cells (BA a) 22 (0,0)))
  invF invT [0,1,2,3] rfl (by kernel_rfl) (fun _ _ d _ _ h=>by cases d<;>exact h) ga (fun HS=>?_)
 apply mix_look rfl rfl rfl HS
 focus exact fun v h=>look_bytes rfl _ _ rfl (BA_size _) h
 simp only[Act.put,List.setIfInBounds_toArray,List.set_cons_zero,List.set_cons_succ]
 clear HS ga
 refine mix_act rfl rfl rfl ?_
 intro K hK
 go_simp
 refine (of_any (-2) _ (primeAt_below HP.out (Below.drew hB) hp0) (by omega) (by omega)).mono ?_
 rintro e v1 ⟨rfl,hb⟩
 have gz:=bheap hb gz (heap_lt gz)
 have hB:=Below.trans (Below.drew hB) (hb.mono hB.size)
 refine hK _ _ (fun _ h=>bheap hb h (heap_lt h)) ?_
 clear hK K hb
 have NE:=N256.mod (-2)
 refine mix_act rfl rfl rfl ?_
 intro K hK
 go_simp
 refine (pow_any a _ _ ha.1 ha.2 NE.1 NE.2).mono ?_
 rintro e v2 ⟨rfl,hb⟩
 have gz:=bheap hb gz (heap_lt gz)
 have hB:=Below.trans hB (hb.mono hB.size)
 refine hK _ _ (fun _ h=>bheap hb h (heap_lt h)) ?_
 clear hK K hb
 refine mix_act rfl rfl rfl ?_
 intro K hK
 refine act_bytes _ _ rfl _ _ rfl rfl _ gz sz ?_
 intro v7 g7 o7
 refine hK _ _ (fun h=>by cases h) ?_
 clear hK K
 refine mix_done ?_
 go_wp2
 exact bodyPost_ret (v:=.agg (BA (invN a))) (results_cell_row rfl _ _ _ _ _ _ _ rfl g7 Tryz.underlying22 rfl (by rw[BA_size];exact info32)) rfl
  ⟨rfl,Below.trans hB (Only.below (b:=w.heap.size+1) (B:=w.heap.size) o7 (by omega))⟩
theorem heap_a4r (w:World) (A B C D:Obj):((((w.alloc A).alloc B).alloc C).alloc D).heap[w.heap.size+1+1+1]?=some D:=by
 have h:=heap_alloc_new (((w.alloc A).alloc B).alloc C) D
 have e:(((w.alloc A).alloc B).alloc C).heap.size=w.heap.size+1+1+1:=by simp
 rwa [e] at h
theorem st_bytesS {ops:Array Oper} {rest:List Oper} {d:Option Tmp} {x y:Operand} {t:TypeId} {ps:String} {af:Array Edge} {a:Act} {w:World} {Q:Exit→Act→World→Prop} {g:Nat} {n:Int} {old:Array Value}
  (hx:a.eval x=.pointer (some ⟨g,0,none⟩)) (hy:a.eval y=.agg (BA n)) (hg:w.heap[g]?=some (.cells old 22 (0,0))) (hold:old.size=32)
  (h:∀ w2,w2.heap[g]?=some (.cells (BA n) 22 (0,0))→Only g w w2→wpList Tryz.prog ops Q rest (a.put d undef) w2):wpList Tryz.prog ops Q ({ dst:=d,op:=.store 22 x y,type:=t,pos:=ps,after:=af,guard:=none }::rest) a w :=
 st_bytes rfl x y rfl g n hx hy old hg hold h
theorem enterAdd (args:Array Value) (w:World):(callFunc 166 args).run Tryz.prog w=.ok (.enter 166 args) w:=by kernel_rfl
theorem enterMul (args:Array Value) (w:World):(callFunc 103 args).run Tryz.prog w=.ok (.enter 103 args) w:=by kernel_rfl
theorem enterSub (args:Array Value) (w:World):(callFunc 167 args).run Tryz.prog w=.ok (.enter 167 args) w:=by kernel_rfl
theorem exec_call {f:FuncId} (hc:∀ args w,(callFunc f args).run Tryz.prog w=.ok (.enter f args) w) (xs:Array Operand) (ts:Array TypeId) {o:Oper} {a:Act} {w:World} (ho:o.op=.call { callee:=.value (.func f),args:=xs,argTypes:=ts }) :
  (execOp a.eval o).run Tryz.prog w=.ok (.enter f (xs.map a.eval)) w:=by
 unfold execOp
 rw[ho]
 simp only[resolve,Sem.run_bind]
 generalize xs.map a.eval=args
 simp[Act.eval,Deferred.ofValue,invoke,go_sem,hc]
theorem call1 {f:FuncId} (hc:∀ args w,(callFunc f args).run Tryz.prog w=.ok (.enter f args) w) (x:Operand) (ts:Array TypeId) {o:Oper} {a:Act} {w:World} {K:Act→World→Prop} {Q:Exit→Act→World→Prop}
  (ho:o.op=.call { callee:=.value (.func f),args:=#[x],argTypes:=ts }) (V v:Value) (hx:a.eval x=V) (hC:Calls Tryz.prog f #[V] w fun r w'=>r=.returned v∧Below w.heap.size w w')
  (h:∀ w',Below w.heap.size w w'→K (a.put o.dst v) w'):o.wp Tryz.prog a w K Q:=by
 refine wp_enter (exec_call hc #[x] ts ho) ?_
 simp only[List.map_toArray,List.map_cons,List.map_nil,hx]
 exact hC.mono (fun e w' ⟨he,hb⟩=>⟨v,he,h w' hb⟩)
theorem call2 {f:FuncId} (hc:∀ args w,(callFunc f args).run Tryz.prog w=.ok (.enter f args) w) (x y:Operand) (ts:Array TypeId) {o:Oper} {a:Act} {w:World} {K:Act→World→Prop} {Q:Exit→Act→World→Prop}
  (ho:o.op=.call { callee:=.value (.func f),args:=#[x,y],argTypes:=ts }) (V V2 v:Value) (hx:a.eval x=V) (hy:a.eval y=V2) (hC:Calls Tryz.prog f #[V,V2] w fun r w'=>r=.returned v∧Below w.heap.size w w')
  (h:∀ w',Below w.heap.size w w'→K (a.put o.dst v) w'):o.wp Tryz.prog a w K Q:=by
 refine wp_enter (exec_call hc #[x,y] ts ho) ?_
 simp only[List.map_toArray,List.map_cons,List.map_nil,hx,hy]
 exact hC.mono (fun e w' ⟨he,hb⟩=>⟨v,he,h w' hb⟩)
def known (L:List (Option (List Int)×Value)) (i:Nat) (v:Value) (w:World):Prop :=
 match (L.getD i (none,undef)).1 with
 | some ns=>∃ b,v=.slice (some ⟨b,0,none⟩) ns.length ns.length∧RowsAt w b 0 ns∧b<w.heap.size
 | none=>v=(L.getD i (none,undef)).2
theorem exec_move {a:Act} {o:Oper} {w:World} (x:Operand) (ho:o.op=.move x):(execOp a.eval o).run Tryz.prog w=.ok (.value (a.eval x)) w:=by unfold execOp;simp only[ho,Sem.run_pure]
theorem exec_assign {a:Act} {o:Oper} {w:World} (x:Operand) (ho:o.op=.assign x):(execOp a.eval o).run Tryz.prog w=.ok (.value (a.eval x)) w:=by unfold execOp;simp only[ho,Sem.run_pure]
theorem run_build0 (w:World):(Instr.build 22 #[]).run Tryz.prog w=.ok (.agg (BA 0)) w:=by kernel_rfl
theorem exec_build0 {a:Act} {o:Oper} {w:World} (ho:o.op=.build 22 #[]):(execOp a.eval o).run Tryz.prog w=.ok (.value (.agg (BA 0))) w:=by
 unfold execOp
 simp only[ho,List.map_toArray,List.map_nil,Sem.run_bind,run_build0,Result.andThen_ok,Sem.run_pure]
end Go.Proofs.YthghcjepdhkfdaaGreatDoor.Fld
namespace Go.Proofs.YthghcjepdhkfdaaGreatDoor.Fld
open Go
section
variable {P:Program} {ops:Array Oper} {Q:Exit→Act→World→Prop}
def invB2 (ops:Array Oper) (m:Nat):Bool :=
 decide (ops.size=m+1) && (ops.toList.take m).all (fun o=>o.dst.isSome) && decide (dsts ops).Nodup &&
 (List.range ops.size).all (fun i=>match ops[i]? with
  | some o=>o.after.all (fun e=>!Region.binds .any e || decide (e.on<i))
  | none=>true) &&
 (match ops[m]? with | some o=>o.guard.isNone && (List.range m).all (fun j=>predOf o j) | none=>false)
theorem wp_region_last {id:Nat} {a0:Act} {w0:World} (m:Nat) (ol:Oper) (S:World→Prop) (R:World→World→Prop) (φ:Nat→Value→World→Prop) (hm:P.follows .mixedOrders=true) (hB:invB2 ops m=true) (hol:ops[m]?=some ol)
  (hS0:S w0.drew) (hSR:∀ w w',S w→R w w'→S w') (hφ:∀ i v w w',φ i v w→R w w'→φ i v w')
  (step:∀ (i:Nat) (o:Oper),i<m→ops[i]?=some o→∀ (a:Act) (w:World),S w→(∀ t:Nat,(∀ (j:Nat) (oj:Oper),ops[j]?=some oj→oj.dst=some t→predOf oj i=true)→a.tmps[t]?=a0.tmps[t]?) →
   (∀ (j:Nat) (oj:Oper) (d:Nat),ops[j]?=some oj→oj.dst=some d→predOf o j=true→φ j (a.tmps.getD d undef) w) →
   wpOp P ops Q i (fun a' w'=>∃ v,a'=a.put o.dst v∧φ i v w'∧R w w') a w)
  (fin:∀ (vs:Nat→Value) (w:World),S w→(∀ (i:Nat) (o:Oper) (d:Nat),i<m→ops[i]?=some o→o.dst=some d→φ i (vs d) w)→ol.wp P (putAll a0 vs (dsts ops)) w (fun a' w'=>Q .normal a' w') Q)
  (hsz:∀ d∈dsts ops,d<a0.tmps.size):(Code.region id ops true).wp P Q a0 w0:=by
 simp only[invB2,Bool.and_eq_true,decide_eq_true_eq,hol] at hB
 obtain ⟨⟨⟨⟨hsize,hsome⟩,hnd⟩,hord⟩,hgn,hwait⟩:=hB
 refine wp_region_any hm (wpAny_inv (fun listed a w=>(Mid ops a0 S φ listed a w∧listed.getD m false=false)∨((∀ i,i<ops.size→listed.getD i true=true)∧Q .normal a w)) ?_ ?_ ops.size _ a0 _ ?_ ?_)
 ·intro listed a w i inv hi
  obtain ⟨hun,oi,hoi,hall⟩:=mem_ready.1 hi
  have hils:i<listed.size:=by
   rcases Nat.lt_or_ge i listed.size with h | h
   ·exact h
   ·simp[Array.getElem?_eq_none h] at hun
  have hilt:i<ops.size:=(Array.getElem?_eq_some_iff.1 hoi).1
  have hunf:listed.getD i false=false:=by simp[hils] at hun ⊢;exact hun
  rcases inv with ⟨mid,hnl⟩ | ⟨hdone,_⟩
  ·by_cases him:i=m
   ·subst him
    obtain rfl:oi=ol:=Option.some.inj (hoi.symm.trans hol)
    have hlist:∀ j,j<i→listed.getD j false=true:=fun j hj=>by
     have h1:=List.all_eq_true.1 hwait j (List.mem_range.2 hj)
     obtain ⟨e,he,hb⟩:=Array.any_eq_true'.1 h1
     simp only[Bool.and_eq_true,beq_iff_eq] at hb
     have h2:=hall e he hb.1
     rwa [hb.2] at h2
    have hq:=fin (fun d=>a.tmps.getD d undef) w mid.world (fun j o d hj ho hd=>mid.known j o d ho hd (hlist j hj))
    have ha:putAll a0 (fun d=>a.tmps.getD d undef) (dsts ops)=a:=by
     have h1:=putAll_defers (fun d=>a.tmps.getD d undef) (dsts ops) a0
     have h2:(putAll a0 (fun d=>a.tmps.getD d undef) (dsts ops)).tmps=a.tmps:=by
      apply Array.ext_getElem?
      intro t
      by_cases ht:t<a0.tmps.size
      ·rw[putAll_get _ _ _ _ ht]
       by_cases hm2:t∈dsts ops
       ·rw[if_pos hm2]
        have:t<a.tmps.size:=by rw[mid.size];exact ht
        simp[this]
       ·rw[if_neg hm2]
        exact (mid.frame t (fun i o hi _ hd=>hm2 (List.mem_filterMap.2 ⟨o,by simpa using Array.mem_of_getElem? hi,hd⟩))).symm
      ·rw[Array.getElem?_eq_none (by rw[putAll_size];omega),Array.getElem?_eq_none (by rw[mid.size];omega)]
     rw[← mid.defers] at h1
     generalize putAll a0 (fun d=>a.tmps.getD d undef) (dsts ops)=b at h1 h2
     cases a;cases b
     simp only at h1 h2
     rw[h1,h2]
    rw[ha] at hq
    have hw:Region.wanted oi (yielded ops a.tmps)=true:=by
     unfold Region.wanted
     cases hgd:oi.guard with
     | none=>rfl
     | some x=>rw[hgd] at hgn;simp at hgn
    have hlsz:listed.size=ops.size:=mid.lsize
    unfold wpOp
    simp only[hoi,hw,if_true]
    refine .inl (Oper.wp_mono (fun a' w' h=>.inr ⟨fun j hj=>?_,h⟩) hq)
    by_cases hji:i=j
    ·subst hji;simp[hils]
    ·rw[getD_set_ne true hji]
     have h1:=hlist j (by omega)
     have hjl:j<listed.size:=by omega
     simp[hjl] at h1 ⊢;exact h1
   ·have hlt:i<m:=by omega
    have hst:=step i oi hlt hoi a w mid.world
     (fun t ht=>mid.frame t (fun j oj hj hl hd=>by
      obtain ⟨e,he,hb⟩:=Array.any_eq_true'.1 (ht j oj hj hd)
      simp only[Bool.and_eq_true,beq_iff_eq] at hb
      have:=mid.closed j oj hj hl e he hb.1
      rw[hb.2,hunf] at this
      cases this))
     (fun j oj d hj hd hp=>by
      obtain ⟨e,he,hb⟩:=Array.any_eq_true'.1 hp
      simp only[Bool.and_eq_true,beq_iff_eq] at hb
      have:=hall e he hb.1
      rw[hb.2] at this
      exact mid.known j oj d hj hd this)
    refine wpOp_mono (fun a' w' h'=>?_) hst
    obtain ⟨v,rfl,hv,hR⟩:=h'
    have hsi:oi.dst.isSome=true:=List.all_eq_true.1 hsome oi (List.mem_of_getElem? (i:=i) (by rw[List.getElem?_take,if_pos hlt];simpa using hoi))
    obtain ⟨di,hdi⟩:=Option.isSome_iff_exists.1 hsi
    have hmem:di∈dsts ops:=List.mem_filterMap.2 ⟨oi,by simpa using Array.mem_of_getElem? hoi,hdi⟩
    have hdlt:di<a.tmps.size:=by rw[mid.size];exact hsz di hmem
    have hself:(listed.setIfInBounds i true).getD i false=true:=by simp[hils]
    rw[hdi]
    refine .inl ⟨⟨by simp[mid.lsize],fun j oj hj hl e he hb=>?_,by simpa [Act.put] using mid.size,mid.defers,hSR w w' mid.world hR,fun t ht=>?_,fun j oj d hj hd hl=>?_⟩,by rw[getD_set_ne false him];exact hnl⟩
    ·rcases getD_set_false hl with rfl | hl
     ·obtain rfl:oj=oi:=Option.some.inj (hj.symm.trans hoi)
      have h1:=hall e he hb
      by_cases hie:j=e.on
      ·rw[hie];rw[hie] at hself;exact hself
      ·rw[getD_set_ne false hie];exact h1
     ·have h1:=mid.closed j oj hj hl e he hb
      by_cases hie:i=e.on
      ·rw[← hie];exact hself
      ·rw[getD_set_ne false hie];exact h1
    ·have hne:di≠t:=fun h=>ht i oi hoi hself (by rw[hdi,h])
     rw[show (a.put (some di) v).tmps[t]?=a.tmps[t]? from by simp[Act.put,hne]]
     exact mid.frame t (fun j oj hj hl=>ht j oj hj (by
      by_cases hij:i=j
      ·subst hij;exact hself
      ·rw[getD_set_ne false hij];exact hl))
    ·rcases getD_set_false hl with rfl | hl
     ·obtain rfl:oj=oi:=Option.some.inj (hj.symm.trans hoi)
      obtain rfl:d=di:=Option.some.inj (hd.symm.trans hdi)
      rw[show (a.put (some d) v).tmps.getD d undef=v from by simp[Act.put,hdlt]]
      exact hv
     ·have hne:di≠d:=fun h=>by
       subst h
       have:=nodup_dst hnd hoi hj hdi hd
       subst this
       rw[hunf] at hl
       cases hl
      rw[show (a.put (some di) v).tmps.getD d undef=a.tmps.getD d undef from by simp[Act.put,hne]]
      exact hφ j _ w w' (mid.known j oj d hj hd hl) hR
  ·have:=hdone i hilt
   rw[hun] at this
   cases this
 ·intro listed a w inv hr
  rcases inv with ⟨mid,hnl⟩ | ⟨_,hq⟩
  ·exfalso
   have hall:∀ n i,i<n→i<ops.size→listed.getD i false=true:=by
    intro n
    induction n with
    | zero=>intro i h;cases h
    | succ n ih =>
     intro i hin hil
     by_cases hlt:i<n
     ·exact ih i hlt hil
     ·have hin':i=n:=by omega
      subst hin'
      cases hg:listed.getD i false with
      | true=>rfl
      | false =>
       have ho:ops[i]?=some ops[i]:=Array.getElem?_eq_getElem hil
       have h1:=List.all_eq_true.1 hord i (List.mem_range.2 hil)
       simp only[ho] at h1
       have hin2:i∈Region.ready .any ops listed:=mem_ready.2 ⟨by
        have:i<listed.size:=by rw[mid.lsize];exact hil
        simp[this] at hg ⊢;exact hg,_,ho,fun e he hb=>by
        have h2:=Array.all_eq_true'.1 h1 e he
        simp only[hb,Bool.not_true,Bool.false_or,decide_eq_true_eq] at h2
        exact ih e.on h2 (by omega)⟩
       rw[hr] at hin2
       cases hin2
   have h1:=hall (m+1) m (by omega) (by omega)
   rw[hnl] at h1
   cases h1
  ·exact hq
 ·unfold leftOf
  exact Nat.le_trans (List.length_filter_le _ _) (by simp)
 ·exact .inl ⟨⟨by simp,fun j oj _ hl=>(by rw[getD_replicate_f] at hl;cases hl),rfl,rfl,hS0,fun _ _=>rfl,fun i o d _ _ hl=>(by rw[getD_replicate_f] at hl;cases hl)⟩,getD_replicate_f _ _⟩
structure Last (P:Program) (Q:Exit→Act→World→Prop) (ol:Oper) (a:Act) (w:World):Prop where
 out:ol.wp P a w (fun a' w'=>Q .normal a' w') Q
def tabB2 (ops:Array Oper) (m:Nat) (ds:List Nat) (base:List Nat) (p:List (List Nat)):Bool :=
 ((ops.toList.take m).map (·.dst)==ds.map some) && base.all (fun t=>!ds.contains t) &&
 (List.range m).all (fun k=>match ops[k]? with
  | some o=>(p.getD k []).all (fun j=>predOf o j && decide (j<m)) && (match o.guard with | some (g,_)=>decide (g<m) | none=>true)
  | none=>true) && (match ops[m]? with | some o=>o.dst.isNone | none=>false)
theorem wp_region_steps2 {id:Nat} {a0:Act} {w0:World} (m:Nat) (ol:Oper) (S:World→Prop) (R:World→World→Prop) (φ:Nat→Value→World→Prop) (ds:List Nat) (base:List (Nat×Value)) (p:List (List Nat))
  (hm:P.follows .mixedOrders=true) (hB:(invB2 ops m && tabB2 ops m ds (base.map (·.1)) p && ds.all (fun d=>decide (d<a0.tmps.size)))=true) (hdrop:ops.toList.drop m=[ol])
  (hb0:Holds a0 base) (hS0:S w0.drew) (hSR:∀ w w',S w→R w w'→S w') (hφ:∀ i v w w',φ i v w→R w w'→φ i v w')
  (steps:AllSteps P S R φ ds base p 0 (ops.toList.take m))
  (fin:∀ (vs:Nat→Value) (w:World),S w→(∀ j:Nat,j<ds.length→φ j (vs (ds.getD j 0)) w)→Last P Q ol (putAll a0 vs ds) w):(Code.region id ops true).wp P Q a0 w0:=by
 have hol:ops[m]?=some ol:=by
  rw[← Array.getElem?_toList]
  have h:=congrArg (fun l=>l[0]?) hdrop
  simpa [List.getElem?_drop] using h
 simp only[Bool.and_eq_true] at hB
 obtain ⟨⟨hI,hT⟩,hsz⟩:=hB
 have hsize:ops.size=m+1:=by
  simp only[invB2,Bool.and_eq_true,decide_eq_true_eq] at hI
  exact hI.1.1.1.1
 simp only[tabB2,Bool.and_eq_true,beq_iff_eq,hol] at hT
 obtain ⟨⟨⟨hds,hbase⟩,htab⟩,hnone⟩:=hT
 have hnone':ol.dst=none:=by simpa using hnone
 have hm1:m<ops.size:=by omega
 have hat:∀ (j:Nat) (oj:Oper),j<m→ops[j]?=some oj→(ops.toList.take m)[j]?=some oj:=fun j oj hj ho=>by
  rw[List.getElem?_take,if_pos hj];simpa using ho
 have hdst:∀ (j:Nat) (oj:Oper),j<m→ops[j]?=some oj→oj.dst=some (ds.getD j 0)∧j<ds.length:=fun j oj hjm hj=>by
  have h1:((ops.toList.take m).map (·.dst))[j]?=some oj.dst:=by rw[List.getElem?_map,hat j oj hjm hj];rfl
  rw[hds,List.getElem?_map] at h1
  cases hq:ds[j]? with
  | none=>rw[hq] at h1;simp at h1
  | some d =>
   rw[hq] at h1
   have hl:j<ds.length:=(List.getElem?_eq_some_iff.1 hq).1
   refine ⟨?_,hl⟩
   rw[List.getD_eq_getElem?_getD,hq]
   simpa using h1.symm
 have hlt:∀ (j:Nat) (oj:Oper) (d:Nat),ops[j]?=some oj→oj.dst=some d→j<m:=fun j oj d hj hd=>by
  have h1:j<ops.size:=(Array.getElem?_eq_some_iff.1 hj).1
  by_cases e:j=m
  ·subst e
   obtain rfl:oj=ol:=Option.some.inj (hj.symm.trans hol)
   rw[hnone'] at hd
   cases hd
  ·omega
 have hdsts:dsts ops=ds:=by
  unfold dsts
  have hsplit:ops.toList=ops.toList.take m++[ol]:=by
   have h1:=(List.take_append_drop m ops.toList).symm
   have h2:ops.toList.drop m=[ol]:=by
    have hl:m<ops.toList.length:=by simpa using hm1
    rw[List.drop_eq_getElem_cons hl,List.drop_of_length_le (by rw[Array.length_toList];omega)]
    have h3:ops.toList[m]?=some ol:=by simpa using hol
    rw[List.getElem?_eq_getElem hl] at h3
    rw[Option.some.inj h3]
   rw[h2] at h1
   exact h1
  rw[hsplit,List.filterMap_append]
  have h1:(ops.toList.take m).filterMap (·.dst)=((ops.toList.take m).map (·.dst)).filterMap (fun x=>x):=by rw[List.filterMap_map];rfl
  rw[h1,hds,List.filterMap_map]
  have h4:([ol].filterMap fun o=>o.dst)=[]:=by simp[hnone']
  rw[h4,List.append_nil]
  exact List.filterMap_some
 refine wp_region_last m ol S R φ hm hI hol hS0 hSR hφ (fun i o him hi a w hS hfr hkn=>?_) (fun vs w hS h=>?_) (fun d hd=>by rw[hdsts] at hd;simpa using List.all_eq_true.1 hsz d hd)
 ·have hil:i<ops.size:=(Array.getElem?_eq_some_iff.1 hi).1
  have ht:=List.all_eq_true.1 htab i (List.mem_range.2 him)
  simp only[hi,Bool.and_eq_true] at ht
  have st:=AllSteps.at (ops.toList.take m) p 0 steps i o (hat i o him hi)
  rw[Nat.zero_add] at st
  obtain ⟨hg,hk⟩:=st Q a w hS
   (holds_of base (fun t htm=>eval_tmp_of (hfr t (fun j oj hj hd=>by
    exfalso
    have h1:=List.all_eq_true.1 hbase t htm
    have h2:=(hdst j oj (hlt j oj t hj hd) hj).1
    rw[hd] at h2
    have h3:t=ds.getD j 0:=Option.some.inj h2
    have h4:t∈ds:=by
     rw[h3,List.getD_eq_getElem?_getD,List.getElem?_eq_getElem (hdst j oj (hlt j oj t hj hd) hj).2]
     simp
    simp[h4] at h1))) hb0)
   (knows_of _ (fun j hj=>by
    have h1:=List.all_eq_true.1 ht.1 j hj
    simp only[Bool.and_eq_true,decide_eq_true_eq] at h1
    have hoj:ops[j]?=some (ops[j]'(by omega)):=Array.getElem?_eq_getElem (by omega)
    have h2:=hkn j _ _ hoj (hdst j _ h1.2 hoj).1 h1.1
    simpa [Act.eval] using h2))
  have hw:Region.wanted o (yielded ops a.tmps)=true:=by
   unfold Region.wanted
   cases hgd:o.guard with
   | none=>rfl
   | some x =>
    obtain ⟨g,b⟩:=x
    rw[hgd] at hg
    have h2:=ht.2
    rw[hgd] at h2
    simp only[decide_eq_true_eq] at h2
    have hog:ops[g]?=some (ops[g]'(by omega)):=Array.getElem?_eq_getElem (by omega)
    have hd:=(hdst g _ h2 hog).1
    have h4:a.tmps[ds.getD g 0]?=some (.bool b):=by
     simp only[Act.eval] at hg
     rw[Array.getD_eq_getD_getElem?] at hg
     cases hq:a.tmps[ds.getD g 0]? with
     | none=>rw[hq] at hg;simp[undef] at hg
     | some v=>rw[hq] at hg;simpa using hg
    have hy:yielded ops a.tmps g=some b:=by
     unfold yielded
     rw[hog]
     simp only[Option.bind_some,hd,h4]
    simp[hy]
  unfold wpOp
  simp only[hi,hw,if_true]
  exact .inl (hk _ (fun v w' h1 h2=>⟨v,rfl,h1,h2⟩))
 ·rw[hdsts]
  refine (fin vs w hS (fun j hj=>?_)).out
  have hlen:(ops.toList.take m).length=ds.length:=by have:=congrArg List.length hds;simpa using this
  have hjm:j<m:=by rw[← hlen,List.length_take] at hj;omega
  have hoj:ops[j]?=some (ops[j]'(by omega)):=Array.getElem?_eq_getElem (by omega)
  exact h j _ _ hjm hoj (hdst j _ hjm hoj).1
end
end Go.Proofs.YthghcjepdhkfdaaGreatDoor.Fld
namespace Go.Proofs.YthghcjepdhkfdaaGreatDoor.Fld
open Go.RowKit Go.Proofs
def Q4 (x z v w:Int):Array Value:=BA x++BA z++BA v++BA w
theorem Q4_size (x z v w:Int):(Q4 x z v w).size=128:=by simp[Q4,BA_size]
theorem Q4_one (x z v w:Int):(Q4 x z v w).all (·.oneCell')=true:=by
 simp only[Q4,Array.all_append,BA_one,Bool.and_self]
theorem Q4_0 (x z v w:Int) (j:Nat) (hj:j<32):(Q4 x z v w)[j]?=(BA x)[j]?:=by
 unfold Q4
 rw[Array.getElem?_append_left (by simp[BA_size];omega),Array.getElem?_append_left (by simp[BA_size];omega),Array.getElem?_append_left (by simp[BA_size];omega)]
theorem Q4_1 (x z v w:Int) (j:Nat) (hj:j<32):(Q4 x z v w)[32+j]?=(BA z)[j]?:=by
 unfold Q4
 rw[Array.getElem?_append_left (by simp[BA_size];omega),Array.getElem?_append_left (by simp[BA_size];omega),Array.getElem?_append_right (by simp[BA_size])]
 simp[BA_size]
theorem Q4_2 (x z v w:Int) (j:Nat) (hj:j<32):(Q4 x z v w)[64+j]?=(BA v)[j]?:=by
 unfold Q4
 rw[Array.getElem?_append_left (by simp[BA_size];omega),Array.getElem?_append_right (by simp[BA_size])]
 simp[BA_size]
theorem Q4_3 (x z v w:Int) (j:Nat) (_hj:j<32):(Q4 x z v w)[96+j]?=(BA w)[j]?:=by
 unfold Q4
 rw[Array.getElem?_append_right (by simp[BA_size])]
 simp[BA_size]
def tb (b:Bool) (p q:Int):Int:=if b then q else p
end Go.Proofs.YthghcjepdhkfdaaGreatDoor.Fld
namespace Go.Proofs.YthghcjepdhkfdaaGreatDoor.Fld
section
variable {n:Nat} [NeZero n]
structure Fd (n:Nat) [NeZero n] where
 inv:Fin n→Fin n
 mul_inv:∀ a,a≠0→a*inv a=1
 two:(2:Fin n)≠0
 inv0:inv 0=0
variable (K:Fd n)
include K in
include K in
include K in
include K in
include K in
include K in
include K in
include K in
end
section
variable {n:Nat} [NeZero n] (K:Fd n)
include K in
end
section
variable {n:Nat} [NeZero n] (K:Fd n)
include K in
include K in
include K in
end
section
variable {n:Nat} [NeZero n] (K:Fd n)
structure Qd (n:Nat) where
  X:Fin n
  Z:Fin n
  V:Fin n
  W:Fin n
def Qd.turn (b:Bool) (q:Qd n):Qd n:=if b then ⟨q.V,q.W,q.X,q.Z⟩ else q
def Qd.core (k x:Fin n) (q:Qd n):Qd n :=
  ⟨(q.X+q.Z)*(q.X+q.Z)*((q.X-q.Z)*(q.X-q.Z)),
   ((q.X+q.Z)*(q.X+q.Z)-(q.X-q.Z)*(q.X-q.Z))*((q.X+q.Z)*(q.X+q.Z)+k*((q.X+q.Z)*(q.X+q.Z)-(q.X-q.Z)*(q.X-q.Z))),
   ((q.V-q.W)*(q.X+q.Z)+(q.V+q.W)*(q.X-q.Z))*((q.V-q.W)*(q.X+q.Z)+(q.V+q.W)*(q.X-q.Z)),
   x*(((q.V-q.W)*(q.X+q.Z)-(q.V+q.W)*(q.X-q.Z))*((q.V-q.W)*(q.X+q.Z)-(q.V+q.W)*(q.X-q.Z)))⟩
def Qd.step (k x:Fin n) (b:Bool) (q:Qd n):Qd n:=((q.turn b).core k x).turn b
def Qd.run (k x:Fin n) (bs:List Bool) (q:Qd n):Qd n:=bs.foldl (fun q b=>Qd.step k x b q) q
def Qd.start (x:Fin n):Qd n:=⟨1,0,x,1⟩
include K in
include K in
def Lad (k x:Fin n) (bs:List Bool):Fin n:=(Qd.run k x bs (Qd.start x)).X*K.inv (Qd.run k x bs (Qd.start x)).Z
def Flat0 (q:Qd n):Prop:=q.Z=0∧(q.W=0∨(q.X=1∧q.V=0∧q.W=1))
theorem flat_step (k:Fin n) (b:Bool) {q:Qd n} (h:Flat0 q):Flat0 (Qd.step k 0 b q):=by
  obtain ⟨hz,hw⟩:=h
  cases b with
  | false =>
    refine ⟨?_,.inl ?_⟩
    · show ((q.X+q.Z)*(q.X+q.Z)-(q.X-q.Z)*(q.X-q.Z))*((q.X+q.Z)*(q.X+q.Z)+k*((q.X+q.Z)*(q.X+q.Z)-(q.X-q.Z)*(q.X-q.Z)))=0
      rw[hz];grind
    · show 0*(((q.V-q.W)*(q.X+q.Z)-(q.V+q.W)*(q.X-q.Z))*((q.V-q.W)*(q.X+q.Z)-(q.V+q.W)*(q.X-q.Z)))=0
      grind
  | true =>
    refine ⟨?_,.inl ?_⟩
    · show 0*(((q.X-q.Z)*(q.V+q.W)-(q.X+q.Z)*(q.V-q.W))*((q.X-q.Z)*(q.V+q.W)-(q.X+q.Z)*(q.V-q.W)))=0
      grind
    · show ((q.V+q.W)*(q.V+q.W)-(q.V-q.W)*(q.V-q.W))*((q.V+q.W)*(q.V+q.W)+k*((q.V+q.W)*(q.V+q.W)-(q.V-q.W)*(q.V-q.W)))=0
      rcases hw with h | ⟨_,h1,h2⟩
      · rw[h];grind
      · rw[h1,h2];grind
theorem flat_run (k:Fin n) (bs:List Bool) {q:Qd n} (h:Flat0 q):Flat0 (Qd.run k 0 bs q):=by
  induction bs generalizing q with
  | nil=>exact h
  | cons b bs ih=>exact ih (flat_step k b h)
theorem lad_zero (k:Fin n) (bs:List Bool):Lad K k 0 bs=0:=by
  have h:=(flat_run k bs (q:=Qd.start 0) ⟨rfl,.inr ⟨rfl,rfl,rfl⟩⟩).1
  unfold Lad
  rw[h,K.inv0];grind
end
section
variable {n:Nat} [NeZero n] (K:Fd n)
include K in
include K in
include K in
include K in
include K in
include K in
end
def pN:Nat:=57896044618658097711785492504343953926634992332820282019728792003956564819949
instance:NeZero pN:=⟨by decide⟩
theorem pN_int:(pN:Int)=P255:=rfl
abbrev Fp:=Fin pN
def ofI (x:Int):Fp:=⟨(x%P255).toNat,by
 have h0:=(mod_lt_P x).1
 have h1:=(mod_lt_P x).2
 have h2:=pN_int
 omega⟩
theorem ofI_val (x:Int):((ofI x).val:Int)=x%P255:=Int.toNat_of_nonneg (mod_lt_P x).1
theorem fp_ext {a b:Fp} (h:(a.val:Int)=(b.val:Int)):a=b:=Fin.ext (by omega)
theorem ofI_eq {x y:Int}:ofI x=ofI y↔x%P255=y%P255 :=
 ⟨fun h=>by have:=congrArg (fun a:Fp=>(a.val:Int)) h;simpa only [ofI_val] using this,fun h=>fp_ext (by rw[ofI_val,ofI_val,h])⟩
theorem ofI_mod (x:Int):ofI (x%P255)=ofI x:=ofI_eq.2 (Int.emod_emod x P255)
theorem ofI_self (a:Fp):ofI (a.val:Int)=a:=fp_ext (by
 rw[ofI_val]
 exact Int.emod_eq_of_lt (by omega) (by have h:=a.isLt;have h2:=pN_int;omega))
theorem ofI_add (x y:Int):ofI (x+y)=ofI x+ofI y:=fp_ext (by
 rw[Fin.val_add,Int.natCast_emod,Int.natCast_add,ofI_val,ofI_val,ofI_val,pN_int,← Int.add_emod])
theorem ofI_mul (x y:Int):ofI (x*y)=ofI x*ofI y:=fp_ext (by
 rw[Fin.val_mul,Int.natCast_emod,Int.natCast_mul,ofI_val,ofI_val,ofI_val,pN_int,← Int.mul_emod])
theorem ofI_zero:ofI 0=0:=rfl
theorem ofI_one:ofI 1=1:=fp_ext (by rw[ofI_val];decide +kernel)
theorem ofI_sub (x y:Int):ofI (x-y)=ofI x-ofI y:=by
 have h:ofI (x-y)+ofI y=ofI x:=by rw[← ofI_add,Int.sub_add_cancel]
 rw[← h];grind
theorem ofI_ne {x:Int}:ofI x≠0↔x%P255≠0:=by
 rw[← ofI_zero,Ne,ofI_eq,Int.zero_emod]
def Kp:Fd pN where
 inv a:=ofI (invN (a.val:Int))
 mul_inv a ha:=by
  have h:(a.val:Int)%P255≠0:=by rw[← ofI_ne,ofI_self];exact ha
  have e:a*ofI (invN (a.val:Int))=ofI ((a.val:Int)*invN (a.val:Int)):=by rw[ofI_mul,ofI_self]
  rw[e,← ofI_one,ofI_eq,inv_mul h]
  decide +kernel
 two:=by
  have:(2:Fp)=ofI 2:=fp_ext (by rw[ofI_val];decide +kernel)
  rw[this,ofI_ne]
  decide +kernel
 inv0:=by
  show ofI (invN ((0:Fp).val:Int))=0
  rw[invN_zero (by decide +kernel)];rfl
theorem Kp_inv (x:Int):Kp.inv (ofI x)=ofI (invN x):=by
 show ofI (invN ((ofI x).val:Int))=_
 rw[ofI_val,ofI_eq]
 unfold invN
 rw[emod_pow]
def qN:Nat:=14474011154664524427946373126085988481658748083205070504932198000989141204987
def rN:Nat:=7237005577332262213973186563042994240829374041602535252466099000494570602494
theorem r2:rN+rN=qN+1:=by decide +kernel
def kN:Fp:=121665
def H254:Int:=28948022309329048855892746252171976963317496166410141009864396001978282409984
def clampN (k:Int):Int:=k%H254/8*8+H254
theorem clampN_range (k:Int):H254≤clampN k∧clampN k<W255∧clampN k%8=0:=by unfold clampN H254 W255;omega
theorem clampN_256 (k:Int):N256 (clampN k):=by
 have h:=clampN_range k
 unfold N256 W256
 unfold H254 W255 at h
 omega
theorem byt_eights (m:Int) (i:Nat) (hi:1≤i):byt (m/8*8) i=byt m i:=by
 obtain ⟨j,rfl⟩:∃ j,i=j+1:=⟨i-1,by omega⟩
 unfold byt
 rw[Int.pow_succ,Int.mul_comm (256 ^ j) 256,← Int.ediv_ediv_of_nonneg (show (0:Int)≤256 by decide),← Int.ediv_ediv_of_nonneg (show (0:Int)≤256 by decide),show m/8*8/256=m/256 by omega]
theorem clamp_mid (k:Int) (i:Nat) (h1:1≤i) (h2:i<31):byt (clampN k) i=byt k i:=by
 have e:clampN k%256 ^ 31=k%256 ^ 31/8*8:=by unfold clampN H254;omega
 rw[← byt_mod (clampN k) i 31 h2,e,byt_eights _ i h1,byt_mod k i 31 h2]
theorem BA_clamp (k:Int) (hk:N256 k):((BA k).setIfInBounds 0 (.int .u8 (byt k 0/8*8))).setIfInBounds 31 (.int .u8 (byt k 31%64+64))=BA (clampN k):=by
 obtain ⟨h0,h1⟩:=hk
 unfold W256 at h1
 apply BA_ext
 ·simp[BA_size]
 ·intro i hi
  rw[Array.getElem?_setIfInBounds]
  by_cases e:31=i
  ·subst e
   simp only[if_true,Array.size_setIfInBounds,BA_size]
   rw[if_pos (by omega)]
   congr 2
   unfold byt clampN H254
   omega
  ·rw[if_neg e,Array.getElem?_setIfInBounds]
   by_cases e0:0=i
   ·subst e0
    simp only[if_true,BA_size]
    rw[if_pos (by omega)]
    congr 2
    unfold byt clampN H254
    omega
   ·rw[if_neg e0,BA_get _ _ hi,clamp_mid k i (by omega) (by omega)]
def topList (N:Nat) (j:Nat):List Bool:=(List.range j).map fun i=>N.testBit (254-i)
theorem topList_succ (N j:Nat):topList N (j+1)=topList N j++[N.testBit (254-j)]:=by
 unfold topList;rw[List.range_succ,List.map_append];rfl
theorem run_snoc (k x:Fp) (bs:List Bool) (b:Bool) (q:Qd pN):Qd.run k x (bs++[b]) q=Qd.step k x b (Qd.run k x bs q):=by
 unfold Qd.run;rw[List.foldl_append];rfl
def keyBits (k:Int):List Bool:=topList (clampN k).toNat 255
def tN (k u:Int):Int:=((Lad Kp kN (ofI (u%W255)) (keyBits k)).val:Int)
theorem tN_range (k u:Int):0≤tN k u∧tN k u<P255:=by
 have h:=(Lad Kp kN (ofI (u%W255)) (keyBits k)).isLt
 have h2:=pN_int
 unfold tN
 omega
theorem tN_256 (k u:Int):N256 (tN k u):=by
 have h:=tN_range k u
 unfold N256 W256
 unfold P255 at h
 omega
def QI (x z v w:Int):Qd pN:=⟨ofI x,ofI z,ofI v,ofI w⟩
theorem lad_end (k u X Z V W:Int) (h:Qd.run kN (ofI (u%W255)) (keyBits k) (Qd.start (ofI (u%W255)))=QI X Z V W):(X*invN Z)%P255=tN k u:=by
 unfold tN Lad
 rw[h]
 show _=((ofI X*Kp.inv (ofI Z)).val:Int)
 rw[Kp_inv,← ofI_mul,ofI_val]
end Go.Proofs.YthghcjepdhkfdaaGreatDoor.Fld
namespace Go.Proofs.YthghcjepdhkfdaaGreatDoor.Fld
open Go.RowKit Go.Proofs
inductive Kn where
 | val (v:Value)
 | fresh (t:TypeId) (n:Nat)
def kn (B:Nat) (L:List Kn) (i:Nat) (v:Value) (w:World):Prop :=
 match L.getD i (.val undef) with
 | .val u=>v=u
 | .fresh t m=>∃ b,v=.pointer (some ⟨b,0,none⟩)∧B≤b∧∃ cs:Array Value,w.heap[b]?=some (.cells cs t (0,0))∧cs.size=m
theorem kN_ofI:kN=ofI 121665:=fp_ext (by rw[ofI_val];decide +kernel)
theorem tb_256 {b:Bool} {p q:Int} (hp:N256 p) (hq:N256 q):N256 (tb b p q):=by cases b<;>simp only[tb,Bool.false_eq_true,if_false,if_true]<;>assumption
theorem look_at {a:Act} {o:Oper} {x:Operand} {w:World} (ho:o.op=.load 22 x) (b off:Nat) (n:Int) (hx:a.eval x=.pointer (some ⟨b,off,none⟩)) (hc:w.rangeAt b off (BA n).toList) :
  (execOp a.eval o).run Tryz.prog w=.ok (.value (.agg (BA n))) w:=by
 unfold execOp
 simp only[ho,hx,Instr.loadAt,Instr.sureAddr,Sem.run_bind,Sem.run_pure,Result.andThen_ok,run_loadVar_mid w b off 22 (BA n).toList _ hc Tryz.underlying22 rfl (by rw[Array.length_toList,BA_size];exact info32),Array.toArray_toList]
theorem start_link (x:Int):QI 1 0 x 1=Qd.start (ofI x):=by unfold QI Qd.start;rw[ofI_one,ofI_zero]
theorem N256_1':N256 1:=by unfold N256 W256;omega
theorem N256_0':N256 0:=by unfold N256 W256;omega
theorem neq_bytes {a:Act} {o:Oper} {w:World} (x y:Operand) (t:TypeId) (ho:o.op=.binOp .neq 22 x y t) (m n:Int) (hx:a.eval x=.agg (BA m)) (hy:a.eval y=.agg (BA n))
  (hm:N256 m) (hn:N256 n):(execOp a.eval o).run Tryz.prog w=.ok (.value (.bool (!(m==n)))) w:=by
 unfold execOp
 simp only[ho,hx,hy,Sem.run_bind,run_eqGuard_agg w .neq 22 x y _ _ eqg24,Result.andThen_ok,run_neq_struct,equal_bytes m n 9998 w,all_beq hm.1 hm.2 hn.1 hn.2,Sem.run_pure]
def isOb (cs:Array Value) (t:TypeId) (ob:Obj):Prop:=ob=.cells cs t (0,0)
def ptrTo (b:Nat) (v:Value):Prop:=v=.pointer (some ⟨b,0,none⟩)
def slTo (n b:Nat) (v:Value):Prop:=v=.slice (some ⟨b,0,none⟩) n n
def kv (x:Value):Kw:=.val (fun v=>v=x)
def kp (cs:Array Value) (t:TypeId) (s:Nat) (cs':Array Value):Kw:=.new ptrTo ⟨isOb cs t,[(s,isOb cs' t)]⟩
def ks (n:Nat) (cs:Array Value) (t:TypeId):Kw:=.new (slTo n) ⟨isOb cs t,[]⟩
def fixd (cs:Array Value) (t:TypeId):Cont:=⟨isOb cs t,[]⟩
def once (cs:Array Value) (t:TypeId) (s:Nat) (cs':Array Value):Cont:=⟨isOb cs t,[(s,isOb cs' t)]⟩
theorem obAt {cs:Array Value} {t:TypeId} {w:World} {b:Nat} (h:ContOK (isOb cs t) w b):w.heap[b]?=some (.cells cs t (0,0)):=by
 obtain ⟨ob,h,rfl⟩:=h
 exact h
theorem obIn {cs:Array Value} {t:TypeId} {w:World} {b:Nat} (h:w.heap[b]?=some (.cells cs t (0,0))):ContOK (isOb cs t) w b:=⟨_,h,rfl⟩
theorem touch_below {w w':World} (h:Below w.heap.size w w'):Touch (fun _=>False) w w':=⟨h.os,h.tape,h.output,h.size,fun k hk _=>h.block k hk⟩
theorem touch_only {b:Nat} {w w':World} (h:Only b w w'):Touch (fun k=>k=b) w w':=⟨h.os,h.tape,h.output,by rw[h.size];exact Nat.le_refl _,fun k _ hn=>h.block k hn⟩
def Keep (wd v:World):Prop:=Below wd.heap.size wd v∧PrimeAt v
theorem keep_touch {wd w w':World} {T:Nat→Prop} (h0:0<wd.heap.size) (h:Keep wd w) (ht:Touch T w w') (hT:∀ k,T k→wd.heap.size≤k):Keep wd w':=by
 have hb:Below wd.heap.size w w':=⟨ht.os,ht.tape,ht.output,ht.size,fun k hk=>ht.block k (Nat.lt_of_lt_of_le hk h.1.size) (fun e=>by have:=hT k e;omega)⟩
 exact ⟨h.1.trans hb,primeAt_below h.2 hb h0⟩
def GLow (B0:Nat):List (Nat×Cont)→Prop
 | []=>True
 | x::l=>B0≤x.1∧GLow B0 l
theorem GLow.at {B0:Nat}:∀ {l:List (Nat×Cont)},GLow B0 l→∀ k∈l.map (·.1),B0≤k
 | [],_,_,h=>by simp at h
 | x::l,hl,k,h=>by
  rw[List.map_cons] at h
  rcases List.mem_cons.1 h with rfl | h
  ·exact hl.1
  ·exact GLow.at hl.2 k h
theorem keep_G {wd:World} {G:List (Nat×Cont)} {B:Nat} (h0:0<wd.heap.size) (hB:wd.heap.size≤B) (hG:GLow wd.heap.size G) (w w':World) (h:Keep wd w) (ht:Touch (fun k=>B≤k∨k∈G.map (·.1)) w w'):Keep wd w' :=
 keep_touch h0 h ht (fun k hk=>hk.elim (fun hk=>Nat.le_trans hB hk) (fun hk=>hG.at k hk))
theorem keep_below {wd w w':World} (h0:0<wd.heap.size) (h:Keep wd w) (hb:Below wd.heap.size w w'):Keep wd w':=⟨h.1.trans hb,primeAt_below h.2 hb h0⟩
theorem keep_drew {wd w:World} (h:Keep wd w):Keep wd w.drew:=⟨Below.drew h.1,h.2⟩
theorem zero_bytes (w:World):(zeroValue 22).run Tryz.prog w=.ok (.agg (BA 0)) w:=by kernel_rfl
theorem zero_rungs (w:World):(zeroValue 136).run Tryz.prog w=.ok (.agg (Q4 0 0 0 0)) w:=by kernel_rfl
theorem act_alloc {o:Oper} {a:Act} {w:World} {K:Act→World→Prop} {Q:Exit→Act→World→Prop} {t:TypeId} {cs:Array Value} (hz:∀ w,(zeroValue t).run Tryz.prog w=.ok (.agg cs) w) (ho:o.op=.alloc t)
  (h:∀ w',Below w.heap.size w w'→w'.heap[w.heap.size]?=some (.cells cs t (0,0))→K (a.put o.dst (.pointer (some ⟨w.heap.size,0,none⟩))) w'):o.wp Tryz.prog a w K Q:=by
 have hz:=hz w
 unfold Oper.wp execOp
 simp only[ho]
 simp[go_sem,hz]
 exact h _ ((Below.refl _ _).alloc (Nat.le_refl _) _) (heap_alloc_new w _)
theorem actb2 {o:Oper} {a:Act} {w:World} {K:Act→World→Prop} {Q:Exit→Act→World→Prop} {x y:Operand} (ho:o.op=.buildSlice 75 2 #[(0,x),(1,y)]) {m n:Int} (hx:a.eval x=.agg (BA m)) (hy:a.eval y=.agg (BA n))
  (h:∀ v,v.heap[w.heap.size]?=some (.cells (BA m++BA n) 22 (0,0))→Below w.heap.size w v→K (a.put o.dst (.slice (some ⟨w.heap.size,0,none⟩) 2 2)) v):o.wp Tryz.prog a w K Q:=by
 have hr:=run_bs2 m n w
 unfold Oper.wp execOp
 simp only[ho,List.map_toArray,List.map_cons,List.map_nil,hx,hy,Sem.run_bind,hr,Result.andThen_ok,Sem.run_pure,Oper.upon]
 exact h _ (heap_alloc_new w _) ((Below.refl _ _).alloc (Nat.le_refl _) _)
theorem actb3 {o:Oper} {a:Act} {w:World} {K:Act→World→Prop} {Q:Exit→Act→World→Prop} {x y z:Operand} (ho:o.op=.buildSlice 75 3 #[(0,x),(1,y),(2,z)]) {m n k:Int} (hx:a.eval x=.agg (BA m)) (hy:a.eval y=.agg (BA n)) (hz:a.eval z=.agg (BA k))
  (h:∀ v,v.heap[w.heap.size]?=some (.cells (BA m++BA n++BA k) 22 (0,0))→Below w.heap.size w v→K (a.put o.dst (.slice (some ⟨w.heap.size,0,none⟩) 3 3)) v):o.wp Tryz.prog a w K Q:=by
 have hr:=run_bs3 m n k w
 unfold Oper.wp execOp
 simp only[ho,List.map_toArray,List.map_cons,List.map_nil,hx,hy,hz,Sem.run_bind,hr,Result.andThen_ok,Sem.run_pure,Oper.upon]
 exact h _ (heap_alloc_new w _) ((Below.refl _ _).alloc (Nat.le_refl _) _)
theorem run_fa (b k:Nat) (w:World) (hk:k<4):(Instr.fieldAt 136 (.pointer (some ⟨b,0,none⟩)) k).run Tryz.prog w=.ok (.pointer (some ⟨b,k*32,none⟩)) w:=by
 rcases k with _ | _ | _ | _ | k
 ·kernel_rfl
 ·kernel_rfl
 ·kernel_rfl
 ·kernel_rfl
 ·omega
theorem exec_fa {a:Act} {o:Oper} {w:World} {x:Operand} {k:Nat} (ho:o.op=.fieldAddr 136 x k) {b:Nat} (hx:a.eval x=.pointer (some ⟨b,0,none⟩)) (hk:k<4):(execOp a.eval o).run Tryz.prog w=.ok (.value (.pointer (some ⟨b,k*32,none⟩))) w:=by
 have h:=run_fa b k w hk
 unfold execOp
 simp only[ho,hx,Sem.run_bind,h,Result.andThen_ok,Sem.run_pure]
theorem range_in {wd:World} {b o:Nat} {n:Int} {cs:Array Value} {t:TypeId} (hg:wd.heap[b]?=some (.cells cs t (0,0))) (h:∀ j,j<32→cs[o+j]?=(BA n)[j]?):wd.rangeAt b o (BA n).toList :=
 fun j v hv=>by
  have hj:j<32:=by have:=(List.getElem?_eq_some_iff.1 hv).1;rwa [Array.length_toList,BA_size] at this
  rw[cell_of_row wd b (o+j) _ _ _ hg,h j hj]
  simpa using hv
theorem Q4_0' (x z v w:Int) (j:Nat) (hj:j<32):(Q4 x z v w)[0*32+j]?=(BA x)[j]?:=by rw[show 0*32+j=j by omega];exact Q4_0 x z v w j hj
theorem stepc1 {f:FuncId} (hc:∀ args w,(callFunc f args).run Tryz.prog w=.ok (.enter f args) w) {x:Operand} {ts:Array TypeId} {o:Oper} {a:Act} {w:World} {K:Act→World→Prop} {Q:Exit→Act→World→Prop}
  (ho:o.op=.call { callee:=.value (.func f),args:=#[x],argTypes:=ts }) {V v:Value} (hx:a.eval x=V) (hC:Calls Tryz.prog f #[V] w fun r w'=>r=.returned v∧Below w.heap.size w w')
  (h:∀ w',Below w.heap.size w w'→K (a.put o.dst v) w'):o.wp Tryz.prog a w K Q:=call1 hc x ts ho V v hx hC h
theorem stepc2 {f:FuncId} (hc:∀ args w,(callFunc f args).run Tryz.prog w=.ok (.enter f args) w) {x y:Operand} {ts:Array TypeId} {o:Oper} {a:Act} {w:World} {K:Act→World→Prop} {Q:Exit→Act→World→Prop}
  (ho:o.op=.call { callee:=.value (.func f),args:=#[x,y],argTypes:=ts }) {V V2 v:Value} (hx:a.eval x=V) (hy:a.eval y=V2) (hC:Calls Tryz.prog f #[V,V2] w fun r w'=>r=.returned v∧Below w.heap.size w w')
  (h:∀ w',Below w.heap.size w w'→K (a.put o.dst v) w'):o.wp Tryz.prog a w K Q:=call2 hc x y ts ho V V2 v hx hy hC h
theorem enterOf (args:Array Value) (w:World):(callFunc 58 args).run Tryz.prog w=.ok (.enter 58 args) w:=by kernel_rfl
theorem enterInv (args:Array Value) (w:World):(callFunc 104 args).run Tryz.prog w=.ok (.enter 104 args) w:=by kernel_rfl
theorem info128r:(Tryz.prog.info? 136).map (·.size)=some 128:=by kernel_rfl
theorem st_rungs {ops:Array Oper} {rest:List Oper} {d:Option Tmp} {X Y:Operand} {t:TypeId} {ps:String} {af:Array Edge} {a:Act} {wd:World} {Q:Exit→Act→World→Prop} {g:Nat} {x z v w:Int} {old:Array Value}
  (hx:a.eval X=.pointer (some ⟨g,0,none⟩)) (hy:a.eval Y=.agg (Q4 x z v w)) (hg:wd.heap[g]?=some (.cells old 136 (0,0))) (hold:old.size=128)
  (h:∀ w2,w2.heap[g]?=some (.cells (Q4 x z v w) 136 (0,0))→Only g wd w2→wpList Tryz.prog ops Q rest (a.put d undef) w2):wpList Tryz.prog ops Q ({ dst:=d,op:=.store 136 X Y,type:=t,pos:=ps,after:=af,guard:=none }::rest) a wd :=
 st_row rfl 136 X Y rfl g _ hx hy 136 _ hg (by rw[Q4_size];exact info128r) (by rw[Q4_size];exact hold) (Q4_one x z v w) h
theorem act_rungs {a:Act} {o:Oper} {wd:World} {K:Act→World→Prop} {Q:Exit→Act→World→Prop} {X Y:Operand} (ho:o.op=.store 136 X Y)
  {g:Nat} {x z v w:Int} (hx:a.eval X=.pointer (some ⟨g,0,none⟩)) (hy:a.eval Y=.agg (Q4 x z v w)) {old:Array Value} (hg:wd.heap[g]?=some (.cells old 136 (0,0))) (hold:old.size=128)
  (h:∀ w2,w2.heap[g]?=some (.cells (Q4 x z v w) 136 (0,0))→Only g wd w2→K (a.put o.dst undef) w2):o.wp Tryz.prog a wd K Q :=
 wp_store_row 136 X Y ho g _ hx hy 136 old hg (by rw[Q4_size];exact info128r) (by rw[Q4_size];exact hold) (Q4_one x z v w) (h _ (setRow_heap wd g old _ 136 (0,0) hg) (only_setRow wd g _))
theorem ld_rungs {ops:Array Oper} {rest:List Oper} {o:Oper} {a:Act} {wd:World} {Q:Exit→Act→World→Prop} (hgd:o.guard=none) (X:Operand) (ho:o.op=.load 136 X) (g:Nat) (x z v w:Int)
  (hx:a.eval X=.pointer (some ⟨g,0,none⟩)) (hg:wd.heap[g]?=some (.cells (Q4 x z v w) 136 (0,0)))
  (h:wpList Tryz.prog ops Q rest (a.put o.dst (.agg (Q4 x z v w))) wd):wpList Tryz.prog ops Q (o::rest) a wd :=
 wpList_load_row hgd 136 X ho g hx 136 _ (0,0) _ hg Tryz.underlying136 rfl (by rw[Q4_size];exact info128r) h
theorem look_rungs {a:Act} {o:Oper} {X:Operand} {wd:World} (ho:o.op=.load 136 X) {g:Nat} {x z v w:Int} (hx:a.eval X=.pointer (some ⟨g,0,none⟩))
  (hg:wd.heap[g]?=some (.cells (Q4 x z v w) 136 (0,0))):(execOp a.eval o).run Tryz.prog wd=.ok (.value (.agg (Q4 x z v w))) wd:=by
 unfold execOp
 simp only[ho,hx,Instr.loadAt,Instr.sureAddr,Sem.run_bind,Sem.run_pure,Result.andThen_ok,run_loadVar_row wd g 136 136 _ (0,0) _ hg Tryz.underlying136 rfl (by rw[Q4_size];exact info128r)]
theorem run_rung4 (x z v w:Int) (wd:World):(Instr.build 136 #[(0,.agg (BA x)),(1,.agg (BA z)),(2,.agg (BA v)),(3,.agg (BA w))]).run Tryz.prog wd=.ok (.agg (Q4 x z v w)) wd:=by kernel_rfl
theorem exec_rung4 {a:Act} {o:Oper} {wd:World} {A B C D:Operand} (ho:o.op=.build 136 #[(0,A),(1,B),(2,C),(3,D)]) {x z v w:Int} (hA:a.eval A=.agg (BA x)) (hB:a.eval B=.agg (BA z)) (hC:a.eval C=.agg (BA v)) (hD:a.eval D=.agg (BA w)) :
  (execOp a.eval o).run Tryz.prog wd=.ok (.value (.agg (Q4 x z v w))) wd:=by
 have h:=run_rung4 x z v w wd
 unfold execOp
 simp only[ho,List.map_toArray,List.map_cons,List.map_nil,hA,hB,hC,hD,Sem.run_bind,h,Result.andThen_ok,Sem.run_pure]
theorem lookb {a:Act} {o:Oper} {x:Operand} {w:World} (ho:o.op=.load 22 x) {g:Nat} {n:Int} (hx:a.eval x=.pointer (some ⟨g,0,none⟩)) (hg:w.heap[g]?=some (.cells (BA n) 22 (0,0))) :
  (execOp a.eval o).run Tryz.prog w=.ok (.value (.agg (BA n))) w:=look_bytes ho g _ hx (BA_size _) hg
theorem lookf {a:Act} {o:Oper} {x:Operand} {w:World} (ho:o.op=.load 22 x) {b off:Nat} {n:Int} (hx:a.eval x=.pointer (some ⟨b,off,none⟩)) (hc:w.rangeAt b off (BA n).toList) :
  (execOp a.eval o).run Tryz.prog w=.ok (.value (.agg (BA n))) w:=look_at ho b off n hx hc
theorem actbytes {a:Act} {o:Oper} {w:World} {K:Act→World→Prop} {Q:Exit→Act→World→Prop} {x y:Operand} (ho:o.op=.store 22 x y)
  {g:Nat} {n:Int} (hx:a.eval x=.pointer (some ⟨g,0,none⟩)) (hy:a.eval y=.agg (BA n)) {m:Int} (hg:w.heap[g]?=some (.cells (BA m) 22 (0,0)))
  (h:∀ w2,w2.heap[g]?=some (.cells (BA n) 22 (0,0))→Only g w w2→K (a.put o.dst undef) w2):o.wp Tryz.prog a w K Q:=act_bytes x y ho g n hx hy _ hg (BA_size _) h
theorem climb_link (x z v w u a1 b1 c1 d1 aa bb ee da cb sm rs nx mm t1 t2 nz nv nw:Int)
  (ha1:(x+z)%P255=a1) (hb1:(x-z)%P255=b1) (hc1:(v+w)%P255=c1) (hd1:(v-w)%P255=d1) (haa:a1*a1%P255=aa) (hbb:b1*b1%P255=bb) (hda:d1*a1%P255=da) (hcb:c1*b1%P255=cb) (hee:(aa-bb)%P255=ee)
  (hsm:(da+cb)%P255=sm) (hrs:(da-cb)%P255=rs) (hnx:aa*bb%P255=nx) (hmm:121665%P255=mm) (ht1:mm*ee%P255=t1) (ht2:(aa+t1)%P255=t2) (hnz:ee*t2%P255=nz) (hnv:sm*sm%P255=nv) (hnw:u*(rs*rs)%P255=nw) :
  QI nx nz nv nw=Qd.core kN (ofI u) (QI x z v w):=by
 rw[kN_ofI]
 subst ha1 hb1 hc1 hd1 haa hbb hda hcb hee hsm hrs hnx hmm ht1 ht2 hnz hnv hnw
 simp only[QI,Qd.core,ofI_mod,ofI_mul,ofI_add,ofI_sub]
theorem climbed_any (x z v w u:Int) (wd:World) (hP:PrimeAt wd) (Nx:N256 x) (Nz:N256 z) (Nv:N256 v) (Nw:N256 w) (Nu:N256 u) :
  Calls Tryz.prog 135 #[.agg (Q4 x z v w),.agg (BA u)] wd fun e w'=>(∃ x' z' v' w2,e=.returned (.agg (Q4 x' z' v' w2))∧N256 x'∧N256 z'∧N256 v'∧N256 w2∧QI x' z' v' w2=Qd.core kN (ofI u) (QI x z v w))∧Below wd.heap.size wd w':=by
 have hz:=primeAt_pos hP
 have hzero:=zero_rungs
 have HP:=Hid.mk hP
 clear hP
 go_enter Tryz.func135,Tryz.ntmps135
 go_wp2_with fail
 refine wp_gen (fun v0=>v0.heap[wd.heap.size]?=some (.cells (Q4 x z v w) 136 (0,0))∧v0.heap[wd.heap.size+1]?=some (.cells (BA u) 22 (0,0))∧v0.heap[wd.heap.size+1+1]?=some (.cells (Q4 0 0 0 0) 136 (0,0))∧Keep wd v0)
  ⟨heap_a31 wd _ _ _,heap_a32 wd _ _ _,heap_a3 wd _ _ _,keep_below hz ⟨Below.refl _ _,HP.out⟩ (by repeat first | exact Below.refl _ _ | refine Below.alloc ?_ (by simp<;>omega) _)⟩ ?_
 rintro v0 ⟨g2,g3,g4,hK⟩
 have hs:wd.heap.size+3≤v0.heap.size:=by have:=heap_lt g4;omega
 clear hzero HP
 obtain ⟨a1,ha1⟩:∃ y,(x+z)%P255=y:=⟨_,rfl⟩
 have Na1:N256 a1:=ha1▸N256.mod _
 have Ha1:=Hid.mk ha1
 clear ha1
 obtain ⟨b1,hb1⟩:∃ y,(x-z)%P255=y:=⟨_,rfl⟩
 have Nb1:N256 b1:=hb1▸N256.mod _
 have Hb1:=Hid.mk hb1
 clear hb1
 go_wp2_with fail
 refine wp_region3 (Keep wd) v0.heap.size
  [(wd.heap.size,fixd (Q4 x z v w) 136),((wd.heap.size+1),fixd (BA u) 22),((wd.heap.size+1+1),fixd (Q4 0 0 0 0) 136)]
  [kv (.pointer (some ⟨wd.heap.size,0*32,none⟩)),kv (.agg (BA x)),kv (.pointer (some ⟨wd.heap.size,1*32,none⟩)),kv (.agg (BA z)),ks 2 (BA x++BA z) 22,kv (.agg (BA a1)),kv (.pointer (some ⟨wd.heap.size,0*32,none⟩)),kv (.agg (BA x)),kv (.pointer (some ⟨wd.heap.size,1*32,none⟩)),kv (.agg (BA z)),kv (.agg (BA b1)),kp (BA 0) 22 13 (BA a1),kp (BA 0) 22 14 (BA b1),.val fun _=>True,.val fun _=>True]
  [.none,.none,.none,.none,.none,.none,.none,.none,.none,.none,.none,.none,.none,.own 11 1,.own 12 1]
  [some 16,some 17,some 18,some 19,some 20,some 21,some 22,some 23,some 24,some 25,some 26,some 5,some 6,none,none]
  [(2,.pointer (some ⟨wd.heap.size,0,none⟩))]
  [[],[.slot 0,.base 0 0],[],[.slot 2,.base 0 0],[.slot 1,.slot 3],[.slot 4,.cont 4 0],[],[.slot 6,.base 0 0],[],[.slot 8,.base 0 0],[.slot 7,.slot 9],[],[],[.slot 11,.cont 11 0,.slot 5],[.slot 12,.cont 12 0,.slot 10]]
  [.slot 11,.cont 11 1,.slot 12,.cont 12 1,.base 0 0,.base 1 0,.base 2 0] [16,17,18,19,20,21,22,23,24,25,26,5,6]
  rfl (by kernel_rfl) ⟨rfl,trivial⟩ (keep_drew hK) (Nat.le_refl _) ⟨⟨heap_lt g2,obIn g2⟩,⟨heap_lt g3,obIn g3⟩,⟨heap_lt g4,obIn g4⟩,trivial⟩ ⟨⟨trivial,trivial,trivial⟩,⟨trivial,trivial⟩,trivial,trivial⟩ (keep_G hz (by omega) ⟨(by omega),(by omega),(by omega),trivial⟩)
  ⟨
   (fun _ _ _ _ _ _ fr _=>sV (exec_fa rfl fr.1 (by decide))),
   (fun _ _ _ _ _ _ _ kn=>sV (lookf rfl kn.1 (range_in (obAt kn.2.1) (Q4_0' x z v w)))),
   (fun _ _ _ _ _ _ fr _=>sV (exec_fa rfl fr.1 (by decide))),
   (fun _ _ _ _ _ _ _ kn=>sV (lookf rfl kn.1 (range_in (obAt kn.2.1) (Q4_1 x z v w)))),
   (fun _ _ _ _ _ _ _ kn=>.inl ⟨trivial,fun K hK=>actb2 rfl kn.1 kn.2.1 (fun v hg hb=>hK _ _ ⟨touch_below hb,_,Nat.le_refl _,rfl,obIn hg⟩)⟩),
   (fun _ _ ww _ _ _ _ kn=>.inl ⟨trivial,fun K hK=>stepc1 enterAdd rfl kn.1.1 (add2 x z _ ww Nx Nz (rows2 (obAt kn.2.1)) kn.1.2.2) (fun w' hb=>hK _ _ ⟨touch_below hb,(congrArg (fun n=>Value.agg (BA n)) Ha1.out)⟩)⟩),
   (fun _ _ _ _ _ _ fr _=>sV (exec_fa rfl fr.1 (by decide))),
   (fun _ _ _ _ _ _ _ kn=>sV (lookf rfl kn.1 (range_in (obAt kn.2.1) (Q4_0' x z v w)))),
   (fun _ _ _ _ _ _ fr _=>sV (exec_fa rfl fr.1 (by decide))),
   (fun _ _ _ _ _ _ _ kn=>sV (lookf rfl kn.1 (range_in (obAt kn.2.1) (Q4_1 x z v w)))),
   (fun _ _ ww _ hS _ _ kn=>.inl ⟨trivial,fun K hK=>stepc2 enterSub rfl kn.1 kn.2.1 (sub_any x z ww hS.2 Nx.1 Nx.2 Nz.1 Nz.2) (fun w' hb=>hK _ _ ⟨touch_below hb,(congrArg (fun n=>Value.agg (BA n)) Hb1.out)⟩)⟩),
   (fun _ _ _ _ _ _ _ _=>.inl ⟨trivial,fun K hK=>act_alloc zero_bytes rfl (fun w' hb hg=>hK _ _ ⟨touch_below hb,_,Nat.le_refl _,rfl,obIn hg⟩)⟩),
   (fun _ _ _ _ _ _ _ _=>.inl ⟨trivial,fun K hK=>act_alloc zero_bytes rfl (fun w' hb hg=>hK _ _ ⟨touch_below hb,_,Nat.le_refl _,rfl,obIn hg⟩)⟩),
   (fun _ _ _ _ _ _ _ kn=>.inl ⟨trivial,fun K hK=>actbytes rfl kn.1.1 kn.2.2.1 (obAt kn.2.1) (fun w2 hg ho=>hK _ _ ⟨touch_only ho,obIn hg,trivial⟩)⟩),
   (fun _ _ _ _ _ _ _ kn=>.inl ⟨trivial,fun K hK=>actbytes rfl kn.1.1 kn.2.2.1 (obAt kn.2.1) (fun w2 hg ho=>hK _ _ ⟨touch_only ho,obIn hg,trivial⟩)⟩),
   trivial⟩ ?_
 intro vs1 own v1 hK1 hs1 kn inj
 clear inj
 have e5:vs1 5=.pointer (some ⟨own 11,0,none⟩):=kn.1.1
 have l5:v0.heap.size≤own 11:=kn.1.2.1
 have g5:=obAt kn.2.1
 have e6:vs1 6=.pointer (some ⟨own 12,0,none⟩):=kn.2.2.1.1
 have l6:v0.heap.size≤own 12:=kn.2.2.1.2.1
 have g6:=obAt kn.2.2.2.1
 have g2_:=obAt kn.2.2.2.2.1
 have g3_:=obAt kn.2.2.2.2.2.1
 have g4_:=obAt kn.2.2.2.2.2.2.1
 clear kn
 generalize own 11=b5 at *
 generalize own 12=b6 at *
 simp only[putAll,Act.put,List.setIfInBounds_toArray,List.set_cons_zero,List.set_cons_succ,e5,e6]
 replace l5:wd.heap.size+3≤b5:=by omega
 replace l6:wd.heap.size+3≤b6:=by omega
 replace hs:wd.heap.size+3≤v1.heap.size:=by omega
 clear e5 e6 g2 g3 g4 hs1
 have g2:=g2_
 clear g2_
 have g3:=g3_
 clear g3_
 have g4:=g4_
 clear g4_
 clear hK
 have hK:=hK1
 clear hK1
 clear own
 obtain ⟨c1,hc1⟩:∃ y,(v+w)%P255=y:=⟨_,rfl⟩
 have Nc1:N256 c1:=hc1▸N256.mod _
 have Hc1:=Hid.mk hc1
 clear hc1
 obtain ⟨d1,hd1⟩:∃ y,(v-w)%P255=y:=⟨_,rfl⟩
 have Nd1:N256 d1:=hd1▸N256.mod _
 have Hd1:=Hid.mk hd1
 clear hd1
 go_wp2_with fail
 refine wp_region3 (Keep wd) v1.heap.size
  [(wd.heap.size,fixd (Q4 x z v w) 136),((wd.heap.size+1),fixd (BA u) 22),((wd.heap.size+1+1),fixd (Q4 0 0 0 0) 136),(b5,fixd (BA a1) 22),(b6,fixd (BA b1) 22)]
  [kv (.pointer (some ⟨wd.heap.size,2*32,none⟩)),kv (.agg (BA v)),kv (.pointer (some ⟨wd.heap.size,3*32,none⟩)),kv (.agg (BA w)),ks 2 (BA v++BA w) 22,kv (.agg (BA c1)),kv (.pointer (some ⟨wd.heap.size,2*32,none⟩)),kv (.agg (BA v)),kv (.pointer (some ⟨wd.heap.size,3*32,none⟩)),kv (.agg (BA w)),kv (.agg (BA d1)),kp (BA 0) 22 13 (BA c1),kp (BA 0) 22 14 (BA d1),.val fun _=>True,.val fun _=>True]
  [.none,.none,.none,.none,.none,.none,.none,.none,.none,.none,.none,.none,.none,.own 11 1,.own 12 1]
  [some 27,some 28,some 29,some 30,some 31,some 32,some 33,some 34,some 35,some 36,some 37,some 7,some 8,none,none]
  [(2,.pointer (some ⟨wd.heap.size,0,none⟩))]
  [[],[.slot 0,.base 0 0],[],[.slot 2,.base 0 0],[.slot 1,.slot 3],[.slot 4,.cont 4 0],[],[.slot 6,.base 0 0],[],[.slot 8,.base 0 0],[.slot 7,.slot 9],[],[],[.slot 11,.cont 11 0,.slot 5],[.slot 12,.cont 12 0,.slot 10]]
  [.slot 11,.cont 11 1,.slot 12,.cont 12 1,.base 0 0,.base 1 0,.base 2 0,.base 3 0,.base 4 0] [27,28,29,30,31,32,33,34,35,36,37,7,8]
  rfl (by kernel_rfl) ⟨rfl,trivial⟩ (keep_drew hK) (Nat.le_refl _) ⟨⟨heap_lt g2,obIn g2⟩,⟨heap_lt g3,obIn g3⟩,⟨heap_lt g4,obIn g4⟩,⟨heap_lt g5,obIn g5⟩,⟨heap_lt g6,obIn g6⟩,trivial⟩ ⟨⟨trivial,trivial,trivial,trivial,trivial⟩,⟨trivial,trivial,trivial,trivial⟩,⟨trivial,trivial,trivial⟩,⟨trivial,trivial⟩,trivial,trivial⟩ (keep_G hz (by omega) ⟨(by omega),(by omega),(by omega),(by omega),(by omega),trivial⟩)
  ⟨
   (fun _ _ _ _ _ _ fr _=>sV (exec_fa rfl fr.1 (by decide))),
   (fun _ _ _ _ _ _ _ kn=>sV (lookf rfl kn.1 (range_in (obAt kn.2.1) (Q4_2 x z v w)))),
   (fun _ _ _ _ _ _ fr _=>sV (exec_fa rfl fr.1 (by decide))),
   (fun _ _ _ _ _ _ _ kn=>sV (lookf rfl kn.1 (range_in (obAt kn.2.1) (Q4_3 x z v w)))),
   (fun _ _ _ _ _ _ _ kn=>.inl ⟨trivial,fun K hK=>actb2 rfl kn.1 kn.2.1 (fun v hg hb=>hK _ _ ⟨touch_below hb,_,Nat.le_refl _,rfl,obIn hg⟩)⟩),
   (fun _ _ ww _ _ _ _ kn=>.inl ⟨trivial,fun K hK=>stepc1 enterAdd rfl kn.1.1 (add2 v w _ ww Nv Nw (rows2 (obAt kn.2.1)) kn.1.2.2) (fun w' hb=>hK _ _ ⟨touch_below hb,(congrArg (fun n=>Value.agg (BA n)) Hc1.out)⟩)⟩),
   (fun _ _ _ _ _ _ fr _=>sV (exec_fa rfl fr.1 (by decide))),
   (fun _ _ _ _ _ _ _ kn=>sV (lookf rfl kn.1 (range_in (obAt kn.2.1) (Q4_2 x z v w)))),
   (fun _ _ _ _ _ _ fr _=>sV (exec_fa rfl fr.1 (by decide))),
   (fun _ _ _ _ _ _ _ kn=>sV (lookf rfl kn.1 (range_in (obAt kn.2.1) (Q4_3 x z v w)))),
   (fun _ _ ww _ hS _ _ kn=>.inl ⟨trivial,fun K hK=>stepc2 enterSub rfl kn.1 kn.2.1 (sub_any v w ww hS.2 Nv.1 Nv.2 Nw.1 Nw.2) (fun w' hb=>hK _ _ ⟨touch_below hb,(congrArg (fun n=>Value.agg (BA n)) Hd1.out)⟩)⟩),
   (fun _ _ _ _ _ _ _ _=>.inl ⟨trivial,fun K hK=>act_alloc zero_bytes rfl (fun w' hb hg=>hK _ _ ⟨touch_below hb,_,Nat.le_refl _,rfl,obIn hg⟩)⟩),
   (fun _ _ _ _ _ _ _ _=>.inl ⟨trivial,fun K hK=>act_alloc zero_bytes rfl (fun w' hb hg=>hK _ _ ⟨touch_below hb,_,Nat.le_refl _,rfl,obIn hg⟩)⟩),
   (fun _ _ _ _ _ _ _ kn=>.inl ⟨trivial,fun K hK=>actbytes rfl kn.1.1 kn.2.2.1 (obAt kn.2.1) (fun w2 hg ho=>hK _ _ ⟨touch_only ho,obIn hg,trivial⟩)⟩),
   (fun _ _ _ _ _ _ _ kn=>.inl ⟨trivial,fun K hK=>actbytes rfl kn.1.1 kn.2.2.1 (obAt kn.2.1) (fun w2 hg ho=>hK _ _ ⟨touch_only ho,obIn hg,trivial⟩)⟩),
   trivial⟩ ?_
 intro vs2 own v2 hK2 hs2 kn inj
 clear inj
 have e7:vs2 7=.pointer (some ⟨own 11,0,none⟩):=kn.1.1
 have l7:v1.heap.size≤own 11:=kn.1.2.1
 have g7:=obAt kn.2.1
 have e8:vs2 8=.pointer (some ⟨own 12,0,none⟩):=kn.2.2.1.1
 have l8:v1.heap.size≤own 12:=kn.2.2.1.2.1
 have g8:=obAt kn.2.2.2.1
 have g2_:=obAt kn.2.2.2.2.1
 have g3_:=obAt kn.2.2.2.2.2.1
 have g4_:=obAt kn.2.2.2.2.2.2.1
 have g5_:=obAt kn.2.2.2.2.2.2.2.1
 have g6_:=obAt kn.2.2.2.2.2.2.2.2.1
 clear kn
 generalize own 11=b7 at *
 generalize own 12=b8 at *
 simp only[putAll,Act.put,List.setIfInBounds_toArray,List.set_cons_zero,List.set_cons_succ,e7,e8]
 replace l7:wd.heap.size+3≤b7:=by omega
 replace l8:wd.heap.size+3≤b8:=by omega
 replace hs:wd.heap.size+3≤v2.heap.size:=by omega
 clear e7 e8 g2 g3 g4 g5 g6 hs2
 have g2:=g2_
 clear g2_
 have g3:=g3_
 clear g3_
 have g4:=g4_
 clear g4_
 have g5:=g5_
 clear g5_
 have g6:=g6_
 clear g6_
 clear hK
 have hK:=hK2
 clear hK2
 clear own
 obtain ⟨aa,haa⟩:∃ y,a1*a1%P255=y:=⟨_,rfl⟩
 have Naa:N256 aa:=haa▸N256.mod _
 have Haa:=Hid.mk haa
 clear haa
 obtain ⟨bb,hbb⟩:∃ y,b1*b1%P255=y:=⟨_,rfl⟩
 have Nbb:N256 bb:=hbb▸N256.mod _
 have Hbb:=Hid.mk hbb
 clear hbb
 go_wp2_with fail
 refine wp_region3 (Keep wd) v2.heap.size
  [(wd.heap.size,fixd (Q4 x z v w) 136),((wd.heap.size+1),fixd (BA u) 22),((wd.heap.size+1+1),fixd (Q4 0 0 0 0) 136),(b5,fixd (BA a1) 22),(b6,fixd (BA b1) 22),(b7,fixd (BA c1) 22),(b8,fixd (BA d1) 22)]
  [kv (.agg (BA a1)),kv (.agg (BA a1)),ks 2 (BA a1++BA a1) 22,kv (.agg (BA aa)),kv (.agg (BA b1)),kv (.agg (BA b1)),ks 2 (BA b1++BA b1) 22,kv (.agg (BA bb)),kp (BA 0) 22 10 (BA aa),kp (BA 0) 22 11 (BA bb),.val fun _=>True,.val fun _=>True]
  [.none,.none,.none,.none,.none,.none,.none,.none,.none,.none,.own 8 1,.own 9 1]
  [some 38,some 39,some 40,some 41,some 42,some 43,some 44,some 45,some 9,some 10,none,none]
  [(5,.pointer (some ⟨b5,0,none⟩)),(6,.pointer (some ⟨b6,0,none⟩))]
  [[.base 3 0],[.base 3 0],[.slot 0,.slot 1],[.slot 2,.cont 2 0],[.base 4 0],[.base 4 0],[.slot 4,.slot 5],[.slot 6,.cont 6 0],[],[],[.slot 8,.cont 8 0,.slot 3],[.slot 9,.cont 9 0,.slot 7]]
  [.slot 8,.cont 8 1,.slot 9,.cont 9 1,.base 0 0,.base 1 0,.base 2 0,.base 3 0,.base 4 0,.base 5 0,.base 6 0] [38,39,40,41,42,43,44,45,9,10]
  rfl (by kernel_rfl) ⟨rfl,rfl,trivial⟩ (keep_drew hK) (Nat.le_refl _) ⟨⟨heap_lt g2,obIn g2⟩,⟨heap_lt g3,obIn g3⟩,⟨heap_lt g4,obIn g4⟩,⟨heap_lt g5,obIn g5⟩,⟨heap_lt g6,obIn g6⟩,⟨heap_lt g7,obIn g7⟩,⟨heap_lt g8,obIn g8⟩,trivial⟩ ⟨⟨trivial,trivial,trivial,trivial,trivial,trivial,trivial⟩,⟨trivial,trivial,trivial,trivial,trivial,trivial⟩,⟨trivial,trivial,trivial,trivial,trivial⟩,⟨trivial,trivial,trivial,trivial⟩,⟨trivial,trivial,trivial⟩,⟨trivial,trivial⟩,trivial,trivial⟩ (keep_G hz (by omega) ⟨(by omega),(by omega),(by omega),(by omega),(by omega),(by omega),(by omega),trivial⟩)
  ⟨
   (fun _ _ _ _ _ _ fr kn=>sV (lookb rfl fr.1 (obAt kn.1))),
   (fun _ _ _ _ _ _ fr kn=>sV (lookb rfl fr.1 (obAt kn.1))),
   (fun _ _ _ _ _ _ _ kn=>.inl ⟨trivial,fun K hK=>actb2 rfl kn.1 kn.2.1 (fun v hg hb=>hK _ _ ⟨touch_below hb,_,Nat.le_refl _,rfl,obIn hg⟩)⟩),
   (fun _ _ ww _ _ _ _ kn=>.inl ⟨trivial,fun K hK=>stepc1 enterMul rfl kn.1.1 (mul2 a1 a1 _ ww Na1 Na1 (rows2 (obAt kn.2.1)) kn.1.2.2) (fun w' hb=>hK _ _ ⟨touch_below hb,(congrArg (fun n=>Value.agg (BA n)) Haa.out)⟩)⟩),
   (fun _ _ _ _ _ _ fr kn=>sV (lookb rfl fr.2.1 (obAt kn.1))),
   (fun _ _ _ _ _ _ fr kn=>sV (lookb rfl fr.2.1 (obAt kn.1))),
   (fun _ _ _ _ _ _ _ kn=>.inl ⟨trivial,fun K hK=>actb2 rfl kn.1 kn.2.1 (fun v hg hb=>hK _ _ ⟨touch_below hb,_,Nat.le_refl _,rfl,obIn hg⟩)⟩),
   (fun _ _ ww _ _ _ _ kn=>.inl ⟨trivial,fun K hK=>stepc1 enterMul rfl kn.1.1 (mul2 b1 b1 _ ww Nb1 Nb1 (rows2 (obAt kn.2.1)) kn.1.2.2) (fun w' hb=>hK _ _ ⟨touch_below hb,(congrArg (fun n=>Value.agg (BA n)) Hbb.out)⟩)⟩),
   (fun _ _ _ _ _ _ _ _=>.inl ⟨trivial,fun K hK=>act_alloc zero_bytes rfl (fun w' hb hg=>hK _ _ ⟨touch_below hb,_,Nat.le_refl _,rfl,obIn hg⟩)⟩),
   (fun _ _ _ _ _ _ _ _=>.inl ⟨trivial,fun K hK=>act_alloc zero_bytes rfl (fun w' hb hg=>hK _ _ ⟨touch_below hb,_,Nat.le_refl _,rfl,obIn hg⟩)⟩),
   (fun _ _ _ _ _ _ _ kn=>.inl ⟨trivial,fun K hK=>actbytes rfl kn.1.1 kn.2.2.1 (obAt kn.2.1) (fun w2 hg ho=>hK _ _ ⟨touch_only ho,obIn hg,trivial⟩)⟩),
   (fun _ _ _ _ _ _ _ kn=>.inl ⟨trivial,fun K hK=>actbytes rfl kn.1.1 kn.2.2.1 (obAt kn.2.1) (fun w2 hg ho=>hK _ _ ⟨touch_only ho,obIn hg,trivial⟩)⟩),
   trivial⟩ ?_
 intro vs3 own v3 hK3 hs3 kn inj
 clear inj
 have e9:vs3 9=.pointer (some ⟨own 8,0,none⟩):=kn.1.1
 have l9:v2.heap.size≤own 8:=kn.1.2.1
 have g9:=obAt kn.2.1
 have e10:vs3 10=.pointer (some ⟨own 9,0,none⟩):=kn.2.2.1.1
 have l10:v2.heap.size≤own 9:=kn.2.2.1.2.1
 have g10:=obAt kn.2.2.2.1
 have g2_:=obAt kn.2.2.2.2.1
 have g3_:=obAt kn.2.2.2.2.2.1
 have g4_:=obAt kn.2.2.2.2.2.2.1
 have g5_:=obAt kn.2.2.2.2.2.2.2.1
 have g6_:=obAt kn.2.2.2.2.2.2.2.2.1
 have g7_:=obAt kn.2.2.2.2.2.2.2.2.2.1
 have g8_:=obAt kn.2.2.2.2.2.2.2.2.2.2.1
 clear kn
 generalize own 8=b9 at *
 generalize own 9=b10 at *
 simp only[putAll,Act.put,List.setIfInBounds_toArray,List.set_cons_zero,List.set_cons_succ,e9,e10]
 replace l9:wd.heap.size+3≤b9:=by omega
 replace l10:wd.heap.size+3≤b10:=by omega
 replace hs:wd.heap.size+3≤v3.heap.size:=by omega
 clear e9 e10 g2 g3 g4 g5 g6 g7 g8 hs3
 have g2:=g2_
 clear g2_
 have g3:=g3_
 clear g3_
 have g4:=g4_
 clear g4_
 have g5:=g5_
 clear g5_
 have g6:=g6_
 clear g6_
 have g7:=g7_
 clear g7_
 have g8:=g8_
 clear g8_
 clear hK
 have hK:=hK3
 clear hK3
 clear own
 obtain ⟨da,hda⟩:∃ y,d1*a1%P255=y:=⟨_,rfl⟩
 have Nda:N256 da:=hda▸N256.mod _
 have Hda:=Hid.mk hda
 clear hda
 obtain ⟨cb,hcb⟩:∃ y,c1*b1%P255=y:=⟨_,rfl⟩
 have Ncb:N256 cb:=hcb▸N256.mod _
 have Hcb:=Hid.mk hcb
 clear hcb
 go_wp2_with fail
 refine wp_region3 (Keep wd) v3.heap.size
  [(wd.heap.size,fixd (Q4 x z v w) 136),((wd.heap.size+1),fixd (BA u) 22),((wd.heap.size+1+1),fixd (Q4 0 0 0 0) 136),(b5,fixd (BA a1) 22),(b6,fixd (BA b1) 22),(b7,fixd (BA c1) 22),(b8,fixd (BA d1) 22),(b9,fixd (BA aa) 22),(b10,fixd (BA bb) 22)]
  [kv (.agg (BA d1)),kv (.agg (BA a1)),ks 2 (BA d1++BA a1) 22,kv (.agg (BA da)),kv (.agg (BA c1)),kv (.agg (BA b1)),ks 2 (BA c1++BA b1) 22,kv (.agg (BA cb)),kp (BA 0) 22 10 (BA da),kp (BA 0) 22 11 (BA cb),.val fun _=>True,.val fun _=>True]
  [.none,.none,.none,.none,.none,.none,.none,.none,.none,.none,.own 8 1,.own 9 1]
  [some 46,some 47,some 48,some 49,some 50,some 51,some 52,some 53,some 11,some 12,none,none]
  [(5,.pointer (some ⟨b5,0,none⟩)),(6,.pointer (some ⟨b6,0,none⟩)),(7,.pointer (some ⟨b7,0,none⟩)),(8,.pointer (some ⟨b8,0,none⟩))]
  [[.base 6 0],[.base 3 0],[.slot 0,.slot 1],[.slot 2,.cont 2 0],[.base 5 0],[.base 4 0],[.slot 4,.slot 5],[.slot 6,.cont 6 0],[],[],[.slot 8,.cont 8 0,.slot 3],[.slot 9,.cont 9 0,.slot 7]]
  [.slot 8,.cont 8 1,.slot 9,.cont 9 1,.base 0 0,.base 1 0,.base 2 0,.base 3 0,.base 4 0,.base 5 0,.base 6 0,.base 7 0,.base 8 0] [46,47,48,49,50,51,52,53,11,12]
  rfl (by kernel_rfl) ⟨rfl,rfl,rfl,rfl,trivial⟩ (keep_drew hK) (Nat.le_refl _) ⟨⟨heap_lt g2,obIn g2⟩,⟨heap_lt g3,obIn g3⟩,⟨heap_lt g4,obIn g4⟩,⟨heap_lt g5,obIn g5⟩,⟨heap_lt g6,obIn g6⟩,⟨heap_lt g7,obIn g7⟩,⟨heap_lt g8,obIn g8⟩,⟨heap_lt g9,obIn g9⟩,⟨heap_lt g10,obIn g10⟩,trivial⟩ ⟨⟨trivial,trivial,trivial,trivial,trivial,trivial,trivial,trivial,trivial⟩,⟨trivial,trivial,trivial,trivial,trivial,trivial,trivial,trivial⟩,⟨trivial,trivial,trivial,trivial,trivial,trivial,trivial⟩,⟨trivial,trivial,trivial,trivial,trivial,trivial⟩,⟨trivial,trivial,trivial,trivial,trivial⟩,⟨trivial,trivial,trivial,trivial⟩,⟨trivial,trivial,trivial⟩,⟨trivial,trivial⟩,trivial,trivial⟩ (keep_G hz (by omega) ⟨(by omega),(by omega),(by omega),(by omega),(by omega),(by omega),(by omega),(by omega),(by omega),trivial⟩)
  ⟨
   (fun _ _ _ _ _ _ fr kn=>sV (lookb rfl fr.2.2.2.1 (obAt kn.1))),
   (fun _ _ _ _ _ _ fr kn=>sV (lookb rfl fr.1 (obAt kn.1))),
   (fun _ _ _ _ _ _ _ kn=>.inl ⟨trivial,fun K hK=>actb2 rfl kn.1 kn.2.1 (fun v hg hb=>hK _ _ ⟨touch_below hb,_,Nat.le_refl _,rfl,obIn hg⟩)⟩),
   (fun _ _ ww _ _ _ _ kn=>.inl ⟨trivial,fun K hK=>stepc1 enterMul rfl kn.1.1 (mul2 d1 a1 _ ww Nd1 Na1 (rows2 (obAt kn.2.1)) kn.1.2.2) (fun w' hb=>hK _ _ ⟨touch_below hb,(congrArg (fun n=>Value.agg (BA n)) Hda.out)⟩)⟩),
   (fun _ _ _ _ _ _ fr kn=>sV (lookb rfl fr.2.2.1 (obAt kn.1))),
   (fun _ _ _ _ _ _ fr kn=>sV (lookb rfl fr.2.1 (obAt kn.1))),
   (fun _ _ _ _ _ _ _ kn=>.inl ⟨trivial,fun K hK=>actb2 rfl kn.1 kn.2.1 (fun v hg hb=>hK _ _ ⟨touch_below hb,_,Nat.le_refl _,rfl,obIn hg⟩)⟩),
   (fun _ _ ww _ _ _ _ kn=>.inl ⟨trivial,fun K hK=>stepc1 enterMul rfl kn.1.1 (mul2 c1 b1 _ ww Nc1 Nb1 (rows2 (obAt kn.2.1)) kn.1.2.2) (fun w' hb=>hK _ _ ⟨touch_below hb,(congrArg (fun n=>Value.agg (BA n)) Hcb.out)⟩)⟩),
   (fun _ _ _ _ _ _ _ _=>.inl ⟨trivial,fun K hK=>act_alloc zero_bytes rfl (fun w' hb hg=>hK _ _ ⟨touch_below hb,_,Nat.le_refl _,rfl,obIn hg⟩)⟩),
   (fun _ _ _ _ _ _ _ _=>.inl ⟨trivial,fun K hK=>act_alloc zero_bytes rfl (fun w' hb hg=>hK _ _ ⟨touch_below hb,_,Nat.le_refl _,rfl,obIn hg⟩)⟩),
   (fun _ _ _ _ _ _ _ kn=>.inl ⟨trivial,fun K hK=>actbytes rfl kn.1.1 kn.2.2.1 (obAt kn.2.1) (fun w2 hg ho=>hK _ _ ⟨touch_only ho,obIn hg,trivial⟩)⟩),
   (fun _ _ _ _ _ _ _ kn=>.inl ⟨trivial,fun K hK=>actbytes rfl kn.1.1 kn.2.2.1 (obAt kn.2.1) (fun w2 hg ho=>hK _ _ ⟨touch_only ho,obIn hg,trivial⟩)⟩),
   trivial⟩ ?_
 intro vs4 own v4 hK4 hs4 kn inj
 clear inj
 have e11:vs4 11=.pointer (some ⟨own 8,0,none⟩):=kn.1.1
 have l11:v3.heap.size≤own 8:=kn.1.2.1
 have g11:=obAt kn.2.1
 have e12:vs4 12=.pointer (some ⟨own 9,0,none⟩):=kn.2.2.1.1
 have l12:v3.heap.size≤own 9:=kn.2.2.1.2.1
 have g12:=obAt kn.2.2.2.1
 have g2_:=obAt kn.2.2.2.2.1
 have g3_:=obAt kn.2.2.2.2.2.1
 have g4_:=obAt kn.2.2.2.2.2.2.1
 have g5_:=obAt kn.2.2.2.2.2.2.2.1
 have g6_:=obAt kn.2.2.2.2.2.2.2.2.1
 have g7_:=obAt kn.2.2.2.2.2.2.2.2.2.1
 have g8_:=obAt kn.2.2.2.2.2.2.2.2.2.2.1
 have g9_:=obAt kn.2.2.2.2.2.2.2.2.2.2.2.1
 have g10_:=obAt kn.2.2.2.2.2.2.2.2.2.2.2.2.1
 clear kn
 generalize own 8=b11 at *
 generalize own 9=b12 at *
 simp only[putAll,Act.put,List.setIfInBounds_toArray,List.set_cons_zero,List.set_cons_succ,e11,e12]
 replace l11:wd.heap.size+3≤b11:=by omega
 replace l12:wd.heap.size+3≤b12:=by omega
 replace hs:wd.heap.size+3≤v4.heap.size:=by omega
 clear e11 e12 g2 g3 g4 g5 g6 g7 g8 g9 g10 hs4
 have g2:=g2_
 clear g2_
 have g3:=g3_
 clear g3_
 have g4:=g4_
 clear g4_
 have g5:=g5_
 clear g5_
 have g6:=g6_
 clear g6_
 have g7:=g7_
 clear g7_
 have g8:=g8_
 clear g8_
 have g9:=g9_
 clear g9_
 have g10:=g10_
 clear g10_
 clear hK
 have hK:=hK4
 clear hK4
 clear own
 obtain ⟨ee,hee⟩:∃ y,(aa-bb)%P255=y:=⟨_,rfl⟩
 have Nee:N256 ee:=hee▸N256.mod _
 have Hee:=Hid.mk hee
 clear hee
 go_wp2_with (first|(refine ld_bytes rfl _ rfl _ _ rfl g9 (BA_size _) ?_)|(refine ld_bytes rfl _ rfl _ _ rfl g10 (BA_size _) ?_))
 refine (sub_any aa bb _ hK.2 Naa.1 Naa.2 Nbb.1 Nbb.2).mono ?_
 rintro e u5 ⟨rfl,hb⟩
 rw[Hee.out]
 replace g2:=bheap hb g2 (heap_lt g2)
 replace g3:=bheap hb g3 (heap_lt g3)
 replace g4:=bheap hb g4 (heap_lt g4)
 replace g5:=bheap hb g5 (heap_lt g5)
 replace g6:=bheap hb g6 (heap_lt g6)
 replace g7:=bheap hb g7 (heap_lt g7)
 replace g8:=bheap hb g8 (heap_lt g8)
 replace g9:=bheap hb g9 (heap_lt g9)
 replace g10:=bheap hb g10 (heap_lt g10)
 replace g11:=bheap hb g11 (heap_lt g11)
 replace g12:=bheap hb g12 (heap_lt g12)
 replace hK:=keep_below hz hK (hb.mono (by omega))
 replace hs:wd.heap.size+3≤u5.heap.size:=Nat.le_trans hs hb.size
 clear hb
 go_wp2_with (refine st_bytesS (by rfl) (by rfl) (heap_alloc_new u5 _) (by rfl) ?_;intro v5 g13 o13;refine Hid.out ?_)
 replace g2:=(o13.block _ (Nat.ne_of_lt (heap_lt g2))).trans ((Below.heap_alloc u5 _ _ (heap_lt g2)).trans g2)
 replace g3:=(o13.block _ (Nat.ne_of_lt (heap_lt g3))).trans ((Below.heap_alloc u5 _ _ (heap_lt g3)).trans g3)
 replace g4:=(o13.block _ (Nat.ne_of_lt (heap_lt g4))).trans ((Below.heap_alloc u5 _ _ (heap_lt g4)).trans g4)
 replace g5:=(o13.block _ (Nat.ne_of_lt (heap_lt g5))).trans ((Below.heap_alloc u5 _ _ (heap_lt g5)).trans g5)
 replace g6:=(o13.block _ (Nat.ne_of_lt (heap_lt g6))).trans ((Below.heap_alloc u5 _ _ (heap_lt g6)).trans g6)
 replace g7:=(o13.block _ (Nat.ne_of_lt (heap_lt g7))).trans ((Below.heap_alloc u5 _ _ (heap_lt g7)).trans g7)
 replace g8:=(o13.block _ (Nat.ne_of_lt (heap_lt g8))).trans ((Below.heap_alloc u5 _ _ (heap_lt g8)).trans g8)
 replace g9:=(o13.block _ (Nat.ne_of_lt (heap_lt g9))).trans ((Below.heap_alloc u5 _ _ (heap_lt g9)).trans g9)
 replace g10:=(o13.block _ (Nat.ne_of_lt (heap_lt g10))).trans ((Below.heap_alloc u5 _ _ (heap_lt g10)).trans g10)
 replace g11:=(o13.block _ (Nat.ne_of_lt (heap_lt g11))).trans ((Below.heap_alloc u5 _ _ (heap_lt g11)).trans g11)
 replace g12:=(o13.block _ (Nat.ne_of_lt (heap_lt g12))).trans ((Below.heap_alloc u5 _ _ (heap_lt g12)).trans g12)
 replace hK:=keep_below hz hK (Below.trans ((Below.refl _ _).alloc (by omega) _) (Only.below (b:=u5.heap.size) (B:=wd.heap.size) o13 (by omega)))
 have hs5:wd.heap.size+3≤v5.heap.size:=by rw[o13.size];simp;omega
 clear o13
 generalize hb13:u5.heap.size=b13 at *
 have l13:=hs
 clear hs hb13
 have hs:=hs5
 clear hs5
 refine Hid.mk ?_
 obtain ⟨sm,hsm⟩:∃ y,(da+cb)%P255=y:=⟨_,rfl⟩
 have Nsm:N256 sm:=hsm▸N256.mod _
 have Hsm:=Hid.mk hsm
 clear hsm
 obtain ⟨rs,hrs⟩:∃ y,(da-cb)%P255=y:=⟨_,rfl⟩
 have Nrs:N256 rs:=hrs▸N256.mod _
 have Hrs:=Hid.mk hrs
 clear hrs
 go_wp2_with fail
 refine wp_region3 (Keep wd) v5.heap.size
  [(wd.heap.size,fixd (Q4 x z v w) 136),((wd.heap.size+1),fixd (BA u) 22),((wd.heap.size+1+1),fixd (Q4 0 0 0 0) 136),(b5,fixd (BA a1) 22),(b6,fixd (BA b1) 22),(b7,fixd (BA c1) 22),(b8,fixd (BA d1) 22),(b9,fixd (BA aa) 22),(b10,fixd (BA bb) 22),(b11,fixd (BA da) 22),(b12,fixd (BA cb) 22),(b13,fixd (BA ee) 22)]
  [kv (.agg (BA da)),kv (.agg (BA cb)),ks 2 (BA da++BA cb) 22,kv (.agg (BA sm)),kv (.agg (BA da)),kv (.agg (BA cb)),kv (.agg (BA rs)),kp (BA 0) 22 9 (BA sm),kp (BA 0) 22 10 (BA rs),.val fun _=>True,.val fun _=>True]
  [.none,.none,.none,.none,.none,.none,.none,.none,.none,.own 7 1,.own 8 1]
  [some 57,some 58,some 59,some 60,some 61,some 62,some 63,some 14,some 15,none,none]
  [(11,.pointer (some ⟨b11,0,none⟩)),(12,.pointer (some ⟨b12,0,none⟩))]
  [[.base 9 0],[.base 10 0],[.slot 0,.slot 1],[.slot 2,.cont 2 0],[.base 9 0],[.base 10 0],[.slot 4,.slot 5],[],[],[.slot 7,.cont 7 0,.slot 3],[.slot 8,.cont 8 0,.slot 6]]
  [.slot 7,.cont 7 1,.slot 8,.cont 8 1,.base 0 0,.base 1 0,.base 2 0,.base 3 0,.base 4 0,.base 5 0,.base 6 0,.base 7 0,.base 8 0,.base 9 0,.base 10 0,.base 11 0] [57,58,59,60,61,62,63,14,15]
  rfl (by kernel_rfl) ⟨rfl,rfl,trivial⟩ (keep_drew hK) (Nat.le_refl _) ⟨⟨heap_lt g2,obIn g2⟩,⟨heap_lt g3,obIn g3⟩,⟨heap_lt g4,obIn g4⟩,⟨heap_lt g5,obIn g5⟩,⟨heap_lt g6,obIn g6⟩,⟨heap_lt g7,obIn g7⟩,⟨heap_lt g8,obIn g8⟩,⟨heap_lt g9,obIn g9⟩,⟨heap_lt g10,obIn g10⟩,⟨heap_lt g11,obIn g11⟩,⟨heap_lt g12,obIn g12⟩,⟨heap_lt g13,obIn g13⟩,trivial⟩ ⟨⟨trivial,trivial,trivial,trivial,trivial,trivial,trivial,trivial,trivial,trivial,trivial,trivial⟩,⟨trivial,trivial,trivial,trivial,trivial,trivial,trivial,trivial,trivial,trivial,trivial⟩,⟨trivial,trivial,trivial,trivial,trivial,trivial,trivial,trivial,trivial,trivial⟩,⟨trivial,trivial,trivial,trivial,trivial,trivial,trivial,trivial,trivial⟩,⟨trivial,trivial,trivial,trivial,trivial,trivial,trivial,trivial⟩,⟨trivial,trivial,trivial,trivial,trivial,trivial,trivial⟩,⟨trivial,trivial,trivial,trivial,trivial,trivial⟩,⟨trivial,trivial,trivial,trivial,trivial⟩,⟨trivial,trivial,trivial,trivial⟩,⟨trivial,trivial,trivial⟩,⟨trivial,trivial⟩,trivial,trivial⟩ (keep_G hz (by omega) ⟨(by omega),(by omega),(by omega),(by omega),(by omega),(by omega),(by omega),(by omega),(by omega),(by omega),(by omega),(by omega),trivial⟩)
  ⟨
   (fun _ _ _ _ _ _ fr kn=>sV (lookb rfl fr.1 (obAt kn.1))),
   (fun _ _ _ _ _ _ fr kn=>sV (lookb rfl fr.2.1 (obAt kn.1))),
   (fun _ _ _ _ _ _ _ kn=>.inl ⟨trivial,fun K hK=>actb2 rfl kn.1 kn.2.1 (fun v hg hb=>hK _ _ ⟨touch_below hb,_,Nat.le_refl _,rfl,obIn hg⟩)⟩),
   (fun _ _ ww _ _ _ _ kn=>.inl ⟨trivial,fun K hK=>stepc1 enterAdd rfl kn.1.1 (add2 da cb _ ww Nda Ncb (rows2 (obAt kn.2.1)) kn.1.2.2) (fun w' hb=>hK _ _ ⟨touch_below hb,(congrArg (fun n=>Value.agg (BA n)) Hsm.out)⟩)⟩),
   (fun _ _ _ _ _ _ fr kn=>sV (lookb rfl fr.1 (obAt kn.1))),
   (fun _ _ _ _ _ _ fr kn=>sV (lookb rfl fr.2.1 (obAt kn.1))),
   (fun _ _ ww _ hS _ _ kn=>.inl ⟨trivial,fun K hK=>stepc2 enterSub rfl kn.1 kn.2.1 (sub_any da cb ww hS.2 Nda.1 Nda.2 Ncb.1 Ncb.2) (fun w' hb=>hK _ _ ⟨touch_below hb,(congrArg (fun n=>Value.agg (BA n)) Hrs.out)⟩)⟩),
   (fun _ _ _ _ _ _ _ _=>.inl ⟨trivial,fun K hK=>act_alloc zero_bytes rfl (fun w' hb hg=>hK _ _ ⟨touch_below hb,_,Nat.le_refl _,rfl,obIn hg⟩)⟩),
   (fun _ _ _ _ _ _ _ _=>.inl ⟨trivial,fun K hK=>act_alloc zero_bytes rfl (fun w' hb hg=>hK _ _ ⟨touch_below hb,_,Nat.le_refl _,rfl,obIn hg⟩)⟩),
   (fun _ _ _ _ _ _ _ kn=>.inl ⟨trivial,fun K hK=>actbytes rfl kn.1.1 kn.2.2.1 (obAt kn.2.1) (fun w2 hg ho=>hK _ _ ⟨touch_only ho,obIn hg,trivial⟩)⟩),
   (fun _ _ _ _ _ _ _ kn=>.inl ⟨trivial,fun K hK=>actbytes rfl kn.1.1 kn.2.2.1 (obAt kn.2.1) (fun w2 hg ho=>hK _ _ ⟨touch_only ho,obIn hg,trivial⟩)⟩),
   trivial⟩ ?_
 intro vs6 own v6 hK6 hs6 kn inj
 clear inj
 have e14:vs6 14=.pointer (some ⟨own 7,0,none⟩):=kn.1.1
 have l14:v5.heap.size≤own 7:=kn.1.2.1
 have g14:=obAt kn.2.1
 have e15:vs6 15=.pointer (some ⟨own 8,0,none⟩):=kn.2.2.1.1
 have l15:v5.heap.size≤own 8:=kn.2.2.1.2.1
 have g15:=obAt kn.2.2.2.1
 have g2_:=obAt kn.2.2.2.2.1
 have g3_:=obAt kn.2.2.2.2.2.1
 have g4_:=obAt kn.2.2.2.2.2.2.1
 have g5_:=obAt kn.2.2.2.2.2.2.2.1
 have g6_:=obAt kn.2.2.2.2.2.2.2.2.1
 have g7_:=obAt kn.2.2.2.2.2.2.2.2.2.1
 have g8_:=obAt kn.2.2.2.2.2.2.2.2.2.2.1
 have g9_:=obAt kn.2.2.2.2.2.2.2.2.2.2.2.1
 have g10_:=obAt kn.2.2.2.2.2.2.2.2.2.2.2.2.1
 have g11_:=obAt kn.2.2.2.2.2.2.2.2.2.2.2.2.2.1
 have g12_:=obAt kn.2.2.2.2.2.2.2.2.2.2.2.2.2.2.1
 have g13_:=obAt kn.2.2.2.2.2.2.2.2.2.2.2.2.2.2.2.1
 clear kn
 generalize own 7=b14 at *
 generalize own 8=b15 at *
 simp only[putAll,Act.put,List.setIfInBounds_toArray,List.set_cons_zero,List.set_cons_succ,e14,e15]
 replace l14:wd.heap.size+3≤b14:=by omega
 replace l15:wd.heap.size+3≤b15:=by omega
 replace hs:wd.heap.size+3≤v6.heap.size:=by omega
 clear e14 e15 g2 g3 g4 g5 g6 g7 g8 g9 g10 g11 g12 g13 hs6
 have g2:=g2_
 clear g2_
 have g3:=g3_
 clear g3_
 have g4:=g4_
 clear g4_
 have g5:=g5_
 clear g5_
 have g6:=g6_
 clear g6_
 have g7:=g7_
 clear g7_
 have g8:=g8_
 clear g8_
 have g9:=g9_
 clear g9_
 have g10:=g10_
 clear g10_
 have g11:=g11_
 clear g11_
 have g12:=g12_
 clear g12_
 have g13:=g13_
 clear g13_
 clear hK
 have hK:=hK6
 clear hK6
 clear own
 obtain ⟨nx,hnx⟩:∃ y,aa*bb%P255=y:=⟨_,rfl⟩
 have Nnx:N256 nx:=hnx▸N256.mod _
 have Hnx:=Hid.mk hnx
 clear hnx
 obtain ⟨mm,hmm⟩:∃ y,121665%P255=y:=⟨_,rfl⟩
 have Nmm:N256 mm:=hmm▸N256.mod _
 have Hmm:=Hid.mk hmm
 clear hmm
 obtain ⟨t1,ht1⟩:∃ y,mm*ee%P255=y:=⟨_,rfl⟩
 have Nt1:N256 t1:=ht1▸N256.mod _
 have Ht1:=Hid.mk ht1
 clear ht1
 obtain ⟨t2,ht2⟩:∃ y,(aa+t1)%P255=y:=⟨_,rfl⟩
 have Nt2:N256 t2:=ht2▸N256.mod _
 have Ht2:=Hid.mk ht2
 clear ht2
 obtain ⟨nz,hnz⟩:∃ y,ee*t2%P255=y:=⟨_,rfl⟩
 have Nnz:N256 nz:=hnz▸N256.mod _
 have Hnz:=Hid.mk hnz
 clear hnz
 obtain ⟨nv,hnv⟩:∃ y,sm*sm%P255=y:=⟨_,rfl⟩
 have Nnv:N256 nv:=hnv▸N256.mod _
 have Hnv:=Hid.mk hnv
 clear hnv
 obtain ⟨nw,hnw⟩:∃ y,u*(rs*rs)%P255=y:=⟨_,rfl⟩
 have Nnw:N256 nw:=hnw▸N256.mod _
 have Hnw:=Hid.mk hnw
 clear hnw
 go_wp2_with fail
 refine wp_region3 (Keep wd) v6.heap.size
  [(wd.heap.size,fixd (Q4 x z v w) 136),((wd.heap.size+1),fixd (BA u) 22),((wd.heap.size+1+1),once (Q4 0 0 0 0) 136 24 (Q4 nx nz nv nw)),(b5,fixd (BA a1) 22),(b6,fixd (BA b1) 22),(b7,fixd (BA c1) 22),(b8,fixd (BA d1) 22),(b9,fixd (BA aa) 22),(b10,fixd (BA bb) 22),(b11,fixd (BA da) 22),(b12,fixd (BA cb) 22),(b13,fixd (BA ee) 22),(b14,fixd (BA sm) 22),(b15,fixd (BA rs) 22)]
  [kv (.agg (BA aa)),kv (.agg (BA bb)),ks 2 (BA aa++BA bb) 22,kv (.agg (BA nx)),kv (.agg (BA ee)),kv (.agg (BA aa)),kv (.agg (BA mm)),kv (.agg (BA ee)),ks 2 (BA mm++BA ee) 22,kv (.agg (BA t1)),ks 2 (BA aa++BA t1) 22,kv (.agg (BA t2)),ks 2 (BA ee++BA t2) 22,kv (.agg (BA nz)),kv (.agg (BA sm)),kv (.agg (BA sm)),ks 2 (BA sm++BA sm) 22,kv (.agg (BA nv)),kv (.agg (BA u)),kv (.agg (BA rs)),kv (.agg (BA rs)),ks 3 (BA u++BA rs++BA rs) 22,kv (.agg (BA nw)),kv (.agg (Q4 nx nz nv nw)),.val fun _=>True]
  [.none,.none,.none,.none,.none,.none,.none,.none,.none,.none,.none,.none,.none,.none,.none,.none,.none,.none,.none,.none,.none,.none,.none,.none,.base 2 1]
  [some 64,some 65,some 66,some 67,some 68,some 69,some 70,some 71,some 72,some 73,some 74,some 75,some 76,some 77,some 78,some 79,some 80,some 81,some 82,some 83,some 84,some 85,some 86,some 87,none]
  [(3,.pointer (some ⟨(wd.heap.size+1),0,none⟩)),(4,.pointer (some ⟨(wd.heap.size+1+1),0,none⟩)),(9,.pointer (some ⟨b9,0,none⟩)),(10,.pointer (some ⟨b10,0,none⟩)),(13,.pointer (some ⟨b13,0,none⟩)),(14,.pointer (some ⟨b14,0,none⟩)),(15,.pointer (some ⟨b15,0,none⟩))]
  [[.base 7 0],[.base 8 0],[.slot 0,.slot 1],[.slot 2,.cont 2 0],[.base 11 0],[.base 7 0],[],[.base 11 0],[.slot 6,.slot 7],[.slot 8,.cont 8 0],[.slot 5,.slot 9],[.slot 10,.cont 10 0],[.slot 4,.slot 11],[.slot 12,.cont 12 0],[.base 12 0],[.base 12 0],[.slot 14,.slot 15],[.slot 16,.cont 16 0],[.base 1 0],[.base 13 0],[.base 13 0],[.slot 18,.slot 19,.slot 20],[.slot 21,.cont 21 0],[.slot 3,.slot 13,.slot 17,.slot 22],[.base 2 0,.slot 23]]
  [.base 0 0,.base 1 0,.base 2 1,.base 3 0,.base 4 0,.base 5 0,.base 6 0,.base 7 0,.base 8 0,.base 9 0,.base 10 0,.base 11 0,.base 12 0,.base 13 0] [64,65,66,67,68,69,70,71,72,73,74,75,76,77,78,79,80,81,82,83,84,85,86,87]
  rfl (by kernel_rfl) ⟨rfl,rfl,rfl,rfl,rfl,rfl,rfl,trivial⟩ (keep_drew hK) (Nat.le_refl _) ⟨⟨heap_lt g2,obIn g2⟩,⟨heap_lt g3,obIn g3⟩,⟨heap_lt g4,obIn g4⟩,⟨heap_lt g5,obIn g5⟩,⟨heap_lt g6,obIn g6⟩,⟨heap_lt g7,obIn g7⟩,⟨heap_lt g8,obIn g8⟩,⟨heap_lt g9,obIn g9⟩,⟨heap_lt g10,obIn g10⟩,⟨heap_lt g11,obIn g11⟩,⟨heap_lt g12,obIn g12⟩,⟨heap_lt g13,obIn g13⟩,⟨heap_lt g14,obIn g14⟩,⟨heap_lt g15,obIn g15⟩,trivial⟩ ⟨⟨trivial,(show (wd.heap.size:Nat)≠(wd.heap.size+1+1) from by omega),trivial,trivial,trivial,trivial,trivial,trivial,trivial,trivial,trivial,trivial,trivial,trivial⟩,⟨(show ((wd.heap.size+1):Nat)≠(wd.heap.size+1+1) from by omega),trivial,trivial,trivial,trivial,trivial,trivial,trivial,trivial,trivial,trivial,trivial,trivial⟩,⟨(show ((wd.heap.size+1+1):Nat)≠b5 from by omega),(show ((wd.heap.size+1+1):Nat)≠b6 from by omega),(show ((wd.heap.size+1+1):Nat)≠b7 from by omega),(show ((wd.heap.size+1+1):Nat)≠b8 from by omega),(show ((wd.heap.size+1+1):Nat)≠b9 from by omega),(show ((wd.heap.size+1+1):Nat)≠b10 from by omega),(show ((wd.heap.size+1+1):Nat)≠b11 from by omega),(show ((wd.heap.size+1+1):Nat)≠b12 from by omega),(show ((wd.heap.size+1+1):Nat)≠b13 from by omega),(show ((wd.heap.size+1+1):Nat)≠b14 from by omega),(show ((wd.heap.size+1+1):Nat)≠b15 from by omega),trivial⟩,⟨trivial,trivial,trivial,trivial,trivial,trivial,trivial,trivial,trivial,trivial,trivial⟩,⟨trivial,trivial,trivial,trivial,trivial,trivial,trivial,trivial,trivial,trivial⟩,⟨trivial,trivial,trivial,trivial,trivial,trivial,trivial,trivial,trivial⟩,⟨trivial,trivial,trivial,trivial,trivial,trivial,trivial,trivial⟩,⟨trivial,trivial,trivial,trivial,trivial,trivial,trivial⟩,⟨trivial,trivial,trivial,trivial,trivial,trivial⟩,⟨trivial,trivial,trivial,trivial,trivial⟩,⟨trivial,trivial,trivial,trivial⟩,⟨trivial,trivial,trivial⟩,⟨trivial,trivial⟩,trivial,trivial⟩ (keep_G hz (by omega) ⟨(by omega),(by omega),(by omega),(by omega),(by omega),(by omega),(by omega),(by omega),(by omega),(by omega),(by omega),(by omega),(by omega),(by omega),trivial⟩)
  ⟨
   (fun _ _ _ _ _ _ fr kn=>sV (lookb rfl fr.2.2.1 (obAt kn.1))),
   (fun _ _ _ _ _ _ fr kn=>sV (lookb rfl fr.2.2.2.1 (obAt kn.1))),
   (fun _ _ _ _ _ _ _ kn=>.inl ⟨trivial,fun K hK=>actb2 rfl kn.1 kn.2.1 (fun v hg hb=>hK _ _ ⟨touch_below hb,_,Nat.le_refl _,rfl,obIn hg⟩)⟩),
   (fun _ _ ww _ _ _ _ kn=>.inl ⟨trivial,fun K hK=>stepc1 enterMul rfl kn.1.1 (mul2 aa bb _ ww Naa Nbb (rows2 (obAt kn.2.1)) kn.1.2.2) (fun w' hb=>hK _ _ ⟨touch_below hb,(congrArg (fun n=>Value.agg (BA n)) Hnx.out)⟩)⟩),
   (fun _ _ _ _ _ _ fr kn=>sV (lookb rfl fr.2.2.2.2.1 (obAt kn.1))),
   (fun _ _ _ _ _ _ fr kn=>sV (lookb rfl fr.2.2.1 (obAt kn.1))),
   (fun _ _ ww _ hS _ _ _=>.inl ⟨trivial,fun K hK=>stepc1 enterOf rfl rfl (of_any 121665 ww hS.2 (by omega) (by omega)) (fun w' hb=>hK _ _ ⟨touch_below hb,(congrArg (fun n=>Value.agg (BA n)) Hmm.out)⟩)⟩),
   (fun _ _ _ _ _ _ fr kn=>sV (lookb rfl fr.2.2.2.2.1 (obAt kn.1))),
   (fun _ _ _ _ _ _ _ kn=>.inl ⟨trivial,fun K hK=>actb2 rfl kn.1 kn.2.1 (fun v hg hb=>hK _ _ ⟨touch_below hb,_,Nat.le_refl _,rfl,obIn hg⟩)⟩),
   (fun _ _ ww _ _ _ _ kn=>.inl ⟨trivial,fun K hK=>stepc1 enterMul rfl kn.1.1 (mul2 mm ee _ ww Nmm Nee (rows2 (obAt kn.2.1)) kn.1.2.2) (fun w' hb=>hK _ _ ⟨touch_below hb,(congrArg (fun n=>Value.agg (BA n)) Ht1.out)⟩)⟩),
   (fun _ _ _ _ _ _ _ kn=>.inl ⟨trivial,fun K hK=>actb2 rfl kn.1 kn.2.1 (fun v hg hb=>hK _ _ ⟨touch_below hb,_,Nat.le_refl _,rfl,obIn hg⟩)⟩),
   (fun _ _ ww _ _ _ _ kn=>.inl ⟨trivial,fun K hK=>stepc1 enterAdd rfl kn.1.1 (add2 aa t1 _ ww Naa Nt1 (rows2 (obAt kn.2.1)) kn.1.2.2) (fun w' hb=>hK _ _ ⟨touch_below hb,(congrArg (fun n=>Value.agg (BA n)) Ht2.out)⟩)⟩),
   (fun _ _ _ _ _ _ _ kn=>.inl ⟨trivial,fun K hK=>actb2 rfl kn.1 kn.2.1 (fun v hg hb=>hK _ _ ⟨touch_below hb,_,Nat.le_refl _,rfl,obIn hg⟩)⟩),
   (fun _ _ ww _ _ _ _ kn=>.inl ⟨trivial,fun K hK=>stepc1 enterMul rfl kn.1.1 (mul2 ee t2 _ ww Nee Nt2 (rows2 (obAt kn.2.1)) kn.1.2.2) (fun w' hb=>hK _ _ ⟨touch_below hb,(congrArg (fun n=>Value.agg (BA n)) Hnz.out)⟩)⟩),
   (fun _ _ _ _ _ _ fr kn=>sV (lookb rfl fr.2.2.2.2.2.1 (obAt kn.1))),
   (fun _ _ _ _ _ _ fr kn=>sV (lookb rfl fr.2.2.2.2.2.1 (obAt kn.1))),
   (fun _ _ _ _ _ _ _ kn=>.inl ⟨trivial,fun K hK=>actb2 rfl kn.1 kn.2.1 (fun v hg hb=>hK _ _ ⟨touch_below hb,_,Nat.le_refl _,rfl,obIn hg⟩)⟩),
   (fun _ _ ww _ _ _ _ kn=>.inl ⟨trivial,fun K hK=>stepc1 enterMul rfl kn.1.1 (mul2 sm sm _ ww Nsm Nsm (rows2 (obAt kn.2.1)) kn.1.2.2) (fun w' hb=>hK _ _ ⟨touch_below hb,(congrArg (fun n=>Value.agg (BA n)) Hnv.out)⟩)⟩),
   (fun _ _ _ _ _ _ fr kn=>sV (lookb rfl fr.1 (obAt kn.1))),
   (fun _ _ _ _ _ _ fr kn=>sV (lookb rfl fr.2.2.2.2.2.2.1 (obAt kn.1))),
   (fun _ _ _ _ _ _ fr kn=>sV (lookb rfl fr.2.2.2.2.2.2.1 (obAt kn.1))),
   (fun _ _ _ _ _ _ _ kn=>.inl ⟨trivial,fun K hK=>actb3 rfl kn.1 kn.2.1 kn.2.2.1 (fun v hg hb=>hK _ _ ⟨touch_below hb,_,Nat.le_refl _,rfl,obIn hg⟩)⟩),
   (fun _ _ ww _ _ _ _ kn=>.inl ⟨trivial,fun K hK=>stepc1 enterMul rfl kn.1.1 (mul3 u rs rs _ ww Nu Nrs Nrs (rows3 (obAt kn.2.1)) kn.1.2.2) (fun w' hb=>hK _ _ ⟨touch_below hb,(congrArg (fun n=>Value.agg (BA n)) Hnw.out)⟩)⟩),
   (fun _ _ _ _ _ _ _ kn=>sV (exec_rung4 rfl kn.1 kn.2.1 kn.2.2.1 kn.2.2.2.1)),
   (fun _ _ _ _ _ _ fr kn=>.inl ⟨trivial,fun K hK=>act_rungs rfl fr.2.1 kn.2.1 (obAt kn.1) (Q4_size _ _ _ _) (fun w2 hg ho=>hK _ _ ⟨⟨touch_only ho,obIn hg⟩,trivial⟩)⟩),
   trivial⟩ ?_
 intro vs7 own v7 hK7 hs7 kn inj
 clear inj
 have g2_:=obAt kn.1
 have g3_:=obAt kn.2.1
 have g4_:=obAt kn.2.2.1
 have g5_:=obAt kn.2.2.2.1
 have g6_:=obAt kn.2.2.2.2.1
 have g7_:=obAt kn.2.2.2.2.2.1
 have g8_:=obAt kn.2.2.2.2.2.2.1
 have g9_:=obAt kn.2.2.2.2.2.2.2.1
 have g10_:=obAt kn.2.2.2.2.2.2.2.2.1
 have g11_:=obAt kn.2.2.2.2.2.2.2.2.2.1
 have g12_:=obAt kn.2.2.2.2.2.2.2.2.2.2.1
 have g13_:=obAt kn.2.2.2.2.2.2.2.2.2.2.2.1
 have g14_:=obAt kn.2.2.2.2.2.2.2.2.2.2.2.2.1
 have g15_:=obAt kn.2.2.2.2.2.2.2.2.2.2.2.2.2.1
 clear kn
 simp only[putAll,Act.put,List.setIfInBounds_toArray,List.set_cons_zero,List.set_cons_succ]
 replace hs:wd.heap.size+3≤v7.heap.size:=by omega
 clear g2 g3 g4 g5 g6 g7 g8 g9 g10 g11 g12 g13 g14 g15 hs7
 have g2:=g2_
 clear g2_
 have g3:=g3_
 clear g3_
 have g4:=g4_
 clear g4_
 have g5:=g5_
 clear g5_
 have g6:=g6_
 clear g6_
 have g7:=g7_
 clear g7_
 have g8:=g8_
 clear g8_
 have g9:=g9_
 clear g9_
 have g10:=g10_
 clear g10_
 have g11:=g11_
 clear g11_
 have g12:=g12_
 clear g12_
 have g13:=g13_
 clear g13_
 have g14:=g14_
 clear g14_
 have g15:=g15_
 clear g15_
 clear hK
 have hK:=hK7
 clear hK7
 clear own
 go_wp2
 exact bodyPost_ret (v:=.agg (Q4 nx nz nv nw)) (results_cell_row rfl _ _ _ _ _ _ _ rfl g4 Tryz.underlying136 rfl (by rw[Q4_size];exact info128r)) rfl
  ⟨⟨_,_,_,_,rfl,Nnx,Nnz,Nnv,Nnw,climb_link x z v w u a1 b1 c1 d1 aa bb ee da cb sm rs nx mm t1 t2 nz nv nw Ha1.out Hb1.out Hc1.out Hd1.out Haa.out Hbb.out Hda.out Hcb.out Hee.out Hsm.out Hrs.out Hnx.out Hmm.out Ht1.out Ht2.out Hnz.out Hnv.out Hnw.out⟩,hK.1⟩
theorem xor_u8 (x y:Int) (h0:0≤x) (h1:x<256) (k0:0≤y) (k1:y<256):bits BinOp.xor IntKind.u8 x y=((x.toNat ^^^ y.toNat:Nat):Int):=by go_bits2
theorem xor_lt256 {m n:Nat} (h:m<256) (k:n<256):m ^^^ n<256:=Nat.xor_lt_two_pow (n:=8) h k
theorem and255_u8 (x:Int) (h0:0≤x) (h1:x<256):bits BinOp.and IntKind.u8 255 x=x:=by go_bits2
theorem and0_u8 (x:Int) (h0:0≤x) (h1:x<256):bits BinOp.and IntKind.u8 0 x=0:=by rw[u8_and _ _ (by omega) (by omega) h0 h1];simp
theorem and127_u8 (x:Int) (h0:0≤x) (h1:x<256):bits BinOp.and IntKind.u8 x 127=x%128:=by go_bits2
theorem and248_u8 (x:Int) (h0:0≤x) (h1:x<256):bits BinOp.and IntKind.u8 x 248=x/8*8:=by go_bits2
theorem or64_nat:∀ n:Nat,n<128→n ||| 64=n%64+64:=by decide +kernel
theorem or64_u8 (x:Int) (h0:0≤x) (h1:x<128):bits BinOp.or IntKind.u8 x 64=x%64+64:=by
 rw[u8_or _ _ h0 (by omega) (by omega) (by omega)]
 have:=or64_nat x.toNat (by omega)
 show ((x.toNat ||| 64:Nat):Int)=_
 rw[this]
 omega
theorem clamp_any (k:Int) (w:World) (hk:N256 k) :
  Calls Tryz.prog 99 #[.agg (BA k)] w fun e w'=>e=.returned (.agg (BA (clampN k)))∧Below w.heap.size w w':=by
 have HC:=Hid.mk (BA_clamp k hk)
 clear hk
 have h0:=byt_byte k 0
 have h31:=byt_byte k 31
 unfold Byte at h0 h31
 obtain ⟨h00,h01⟩:=h0
 obtain ⟨h310,h311⟩:=h31
 have c0:=BA_get k 0 (by omega)
 have c31:=BA_get k 31 (by omega)
 generalize byt k 0=x0 at *
 generalize byt k 31=x31 at *
 have e0:=and248_u8 x0 h00 h01
 have e1:=and127_u8 x31 h310 h311
 have e2:=or64_u8 (x31%128) (by omega) (by omega)
 rw[show x31%128%64=x31%64 by omega] at e2
 go_enter Tryz.func99,Tryz.ntmps99
 go_wp2_with (first|(refine ld_bytes rfl _ rfl w.heap.size ((BA k).setIfInBounds 0 (.int .u8 (x0/8*8)) |>.setIfInBounds 31 (.int .u8 (x31%64+64))) rfl (heap_alloc2_old w _ _) (by simp[BA_size]) ?_;rw[HC.out])|(refine st_bytesS (n:=clampN k) (by rfl) (by rfl) (heap_alloc2_new w _ _) (by rfl) ?_;intro v3 g3 o3))
 exact bodyPost_ret (v:=.agg (BA (clampN k))) (results_cell_row rfl _ _ _ _ _ _ _ rfl g3 Tryz.underlying22 rfl (by rw[BA_size];exact info32)) rfl
  ⟨rfl,Below.trans (((Below.refl _ w).alloc (Nat.le_refl _) _).alloc (by simp) _) (Only.below (b:=w.heap.size+1) (B:=w.heap.size) o3 (by omega))⟩
def bI (b:Bool):Int:=if b then 1 else 0
theorem key_bI (N:Int) (j:Nat) (h0:0≤N):bits BinOp.and IntKind.u8 (byt N ((254-j)/8)/2 ^ ((254-j)%8)) 1=bI (N.toNat.testBit (254-j)):=by
 have hb:=byt_byte N ((254-j)/8)
 unfold Byte at hb
 have hp:(0:Int)<2 ^ ((254-j)%8):=Int.pow_pos (by decide)
 have h1:0≤byt N ((254-j)/8)/2 ^ ((254-j)%8):=Int.ediv_nonneg hb.1 (by omega)
 have h2:byt N ((254-j)/8)/2 ^ ((254-j)%8)<256:=by
  have:=Int.ediv_le_self (2 ^ ((254-j)%8)) hb.1
  omega
 rw[and_one_u8 _ h1 h2,byt_bit N (254-j) h0,Nat.testBit_eq_decide_div_mod_eq]
 generalize N.toNat/2 ^ (254-j)=G
 have hG:G%2=0∨G%2=1:=by omega
 rcases hG with hG | hG<;>simp[hG,bI]
theorem bitOf_any (N:Int) (j:Nat) (w:World) (hN:0≤N) (hj:j<255) :
  Calls Tryz.prog 102 #[.agg (BA N),.int .i64 (254-(j:Int))] w fun e w'=>e=.returned (.int .u8 (bI (N.toNat.testBit (254-j))))∧Below w.heap.size w w':=by
 have HB:=Hid.mk (key_bI N j hN)
 have cb:=BA_get N ((254-j)/8) (by omega)
 have hi1:(0:Int)≤254-(j:Int):=by omega
 have hq8:IntKind.i64.wrap ((254-(j:Int)).tdiv 8)=(((254-j)/8:Nat):Int):=by rw[IntKind.wrap_i64,Int.tdiv_eq_ediv_of_nonneg hi1];omega
 have hr8:(254-(j:Int)).tmod 8=(((254-j)%8:Nat):Int):=by rw[Int.tmod_eq_emod_of_nonneg hi1];omega
 obtain ⟨q,hq⟩:∃ q:Nat,(254-j)/8=q:=⟨_,rfl⟩
 obtain ⟨r,hr⟩:∃ r:Nat,(254-j)%8=r:=⟨_,rfl⟩
 have hq32:(q:Int)<32:=by omega
 have hr64:r<8:=by omega
 rw[hq] at hq8 cb
 rw[hr] at hr8
 rw[hq,hr] at HB
 have hbq:=byt_byte N q
 unfold Byte at hbq
 obtain ⟨hbq0,hbq1⟩:=hbq
 go_enter Tryz.func102,Tryz.ntmps102
 go_wp2
 rw[HB.out]
 go_ret
 exact ⟨rfl,(Below.refl _ w).alloc (Nat.le_refl _) _⟩
def mI (b:Bool):Int:=if b then 255 else 0
theorem mask_u8 (b:Bool):IntKind.u8.wrap (-(bI b))=mI b:=by cases b<;>decide
theorem swap_first (b:Bool) (x y:Int) (h0:0≤x) (h1:x<256) (k0:0≤y) (k1:y<256):bits BinOp.xor IntKind.u8 x (bits BinOp.and IntKind.u8 (mI b) (bits BinOp.xor IntKind.u8 x y))=tb b x y:=by
 rw[xor_u8 x y h0 h1 k0 k1]
 have hl:=xor_lt256 (m:=x.toNat) (n:=y.toNat) (by omega) (by omega)
 cases b
 ·simp only[mI,tb,Bool.false_eq_true,if_false]
  rw[and0_u8 _ (by omega) (by omega),xor_u8 x 0 h0 h1 (by omega) (by omega)]
  simp;omega
 ·simp only[mI,tb,if_true]
  rw[and255_u8 _ (by omega) (by omega),xor_u8 x _ h0 h1 (by omega) (by omega)]
  simp only[Int.toNat_natCast]
  rw[← Nat.xor_assoc,Nat.xor_self,Nat.zero_xor];omega
theorem swap_second (b:Bool) (x y:Int) (h0:0≤x) (h1:x<256) (k0:0≤y) (k1:y<256):bits BinOp.xor IntKind.u8 y (bits BinOp.and IntKind.u8 (mI b) (bits BinOp.xor IntKind.u8 x y))=tb b y x:=by
 rw[xor_u8 x y h0 h1 k0 k1,Nat.xor_comm,← xor_u8 y x k0 k1 h0 h1]
 exact swap_first b y x k0 k1 h0 h1
theorem below_G {wd:World} {G:List (Nat×Cont)} {B:Nat} (hB:wd.heap.size≤B) (hG:GLow wd.heap.size G) (w w':World) (h:Below wd.heap.size wd w) (ht:Touch (fun k=>B≤k∨k∈G.map (·.1)) w w'):Below wd.heap.size wd w' :=
 h.trans ⟨ht.os,ht.tape,ht.output,ht.size,fun k hk=>ht.block k (Nat.lt_of_lt_of_le hk h.size) (fun e=>e.elim (fun e=>by omega) (fun e=>by have:=hG.at k e;omega))⟩
theorem results_cells2 {P:Program} {fn:Func} {p q:Tmp} {ty ty':TypeId} (h:fn.results=#[.cell p ty,.cell q ty']) (tmps:Array Value) (w:World) (g g':Nat)
  (hp:tmps.getD p undef=.pointer (some ⟨g,0,none⟩)) (hq:tmps.getD q undef=.pointer (some ⟨g',0,none⟩)) {t t':TypeId} {fr fr':Nat×Nat} {d d':TypeDesc} (cs cs':Array Value) (hg:w.heap[g]?=some (.cells cs t fr)) (hg':w.heap[g']?=some (.cells cs' t' fr'))
  (hi:(P.info? ty).map (·.size)=some cs.size) (hi':(P.info? ty').map (·.size)=some cs'.size)
  (hu:P.underlying ty=some d) (hd:(match d with | .struct _ | .array _ _=>true | _=>false)=true)
  (hu':P.underlying ty'=some d') (hd':(match d' with | .struct _ | .array _ _=>true | _=>false)=true) :
  (results fn tmps).run P w=.ok (.tuple #[.agg cs,.agg cs']) w:=by
 have hp':tmps[p]?.getD undef=.pointer (some ⟨g,0,none⟩):=by simpa using hp
 have hq':tmps[q]?.getD undef=.pointer (some ⟨g',0,none⟩):=by simpa using hq
 simp[results,h,hp',hq',asAddr,run_loadVar_row w g t ty cs fr d hg hu hd hi,run_loadVar_row w g' t' ty' cs' fr' d' hg' hu' hd' hi']
theorem byt_tb (b:Bool) (p q:Int) (j:Nat):tb b (byt p j) (byt q j)=byt (tb b p q) j:=by cases b<;>rfl
theorem mix_next {cs:Array Value} {b:Bool} {p q:Int} {k:Nat} (hk:k<32) (hs:cs.size=32) (h:∀ j,j<32→cs[j]?=some (.int .u8 (byt (if j<k then tb b p q else p) j))) :
  ∀ j,j<32→(cs.setIfInBounds k (.int .u8 (tb b (byt p k) (byt q k))))[j]?=some (.int .u8 (byt (if j<k+1 then tb b p q else p) j)):=by
 intro j hj
 rw[Array.getElem?_setIfInBounds]
 by_cases e:k=j
 ·subst e
  simp only[if_true,hs,hk,byt_tb]
  rw[if_pos (by omega)]
 ·rw[if_neg e,h j hj]
  by_cases hl:j<k
  ·rw[if_pos hl,if_pos (by omega)]
  ·rw[if_neg hl,if_neg (by omega)]
theorem swap_any (b:Bool) (p q:Int) (w:World) :
  Calls Tryz.prog 165 #[.int .u8 (bI b),.agg (BA p),.agg (BA q)] w fun e w'=>e=.returned (.tuple #[.agg (BA (tb b p q)),.agg (BA (tb b q p))])∧Below w.heap.size w w':=by
 have hmask:=mask_u8 b
 go_enter Tryz.func165,Tryz.ntmps165
 go_wp2
 go_loopg [13] 32 (fun m i v=>∃ (k:Nat) (cs ds:Array Value),Hid (m+k=32)∧i=.int .i64 k∧cs.size=32∧ds.size=32∧Hid (∀ j,j<32→cs[j]?=some (.int .u8 (byt (if j<k then tb b p q else p) j)))∧Hid (∀ j,j<32→ds[j]?=some (.int .u8 (byt (if j<k then tb b q p else q) j))) ∧
  v.heap[w.heap.size]?=some (.cells cs 22 (0,0))∧v.heap[w.heap.size+1]?=some (.cells ds 22 (0,0))∧v.heap[w.heap.size+1+1]?=some (.cells (BA 0) 22 (0,0))∧v.heap[w.heap.size+1+1+1]?=some (.cells (BA 0) 22 (0,0))∧Below w.heap.size w v)
 case atStart =>
  refine ⟨0,BA p,BA q,Hid.mk rfl,rfl,BA_size p,BA_size q,Hid.mk (fun j hj=>by rw[if_neg (by omega)];exact BA_get p j hj),Hid.mk (fun j hj=>by rw[if_neg (by omega)];exact BA_get q j hj),?_,?_,?_,?_,?_⟩
  ·exact (Below.heap_alloc _ _ _ (by simp<;>omega)).trans (heap_a31 w _ _ _)
  ·exact (Below.heap_alloc _ _ _ (by simp<;>omega)).trans (heap_a32 w _ _ _)
  ·exact (Below.heap_alloc _ _ _ (by simp<;>omega)).trans (heap_a3 w _ _ _)
  ·exact heap_a4r w _ _ _ _
  ·repeat first | exact Below.refl _ _ | refine Below.alloc ?_ (by simp<;>omega) _
 case round =>
  obtain ⟨k,cs,ds,HJ,rfl,sc,sd,HC,HD,g1,g2,g3,g4,hB⟩:=hrel
  have hk32:k≤32:=by have:=HJ.out;omega
  by_cases hk:k<32
  ·have ca:=(cell_of_row wr w.heap.size k _ _ _ g1).trans (HC.out k hk)
   have cd:=(cell_of_row wr (w.heap.size+1) k _ _ _ g2).trans (HD.out k hk)
   rw[if_neg (by omega)] at ca cd
   have fa:=frozen_of_row wr w.heap.size k _ _ g1
   have fb:=frozen_of_row wr (w.heap.size+1) k _ _ g2
   have NC:=Hid.mk (mix_next hk sc HC.out)
   have ND:=Hid.mk (mix_next hk sd HD.out)
   have hx:=byt_byte p k
   have hy:=byt_byte q k
   unfold Byte at hx hy
   have e1:=swap_first b (byt p k) (byt q k) hx.1 hx.2 hy.1 hy.2
   have e2:=swap_second b (byt p k) (byt q k) hx.1 hx.2 hy.1 hy.2
   generalize byt p k=x at *
   generalize byt q k=y at *
   obtain ⟨d,hd⟩:∃ d,bits BinOp.and IntKind.u8 (mI b) (bits BinOp.xor IntKind.u8 x y)=d:=⟨_,rfl⟩
   rw[hd] at e1 e2
   go_wp2_with fail
   go_region
   go_wp2
   go_roundg (32-(k+1))
   case rel =>
    exact ⟨k+1,cs.setIfInBounds k (.int .u8 (tb b x y)),ds.setIfInBounds k (.int .u8 (tb b y x)),Hid.mk (by omega),by go_num,by simp[sc],by simp[sd],NC,ND,
     (heap_setCell_other _ _ _ _ (by simp<;>omega)).trans (heap_setCell_same _ _ _ _ _ _ g1),heap_setCell_same _ _ _ _ _ _ ((heap_setCell_other _ _ _ _ (by simp<;>omega)).trans g2),
     (heap_setCell_other _ _ _ _ (by simp<;>omega)).trans ((heap_setCell_other _ _ _ _ (by simp<;>omega)).trans g3),(heap_setCell_other _ _ _ _ (by simp<;>omega)).trans ((heap_setCell_other _ _ _ _ (by simp<;>omega)).trans g4),
     Below.setCell (Below.setCell (Below.drew hB) (by simp<;>omega) _) (by simp<;>omega) _⟩
   case measure=>have:=HJ.out;omega
  ·have hk2:k=32:=by omega
   subst hk2
   have ec:cs=BA (tb b p q):=BA_ext sc (fun j hj=>by rw[HC.out j hj,if_pos hj])
   have ed:ds=BA (tb b q p):=BA_ext sd (fun j hj=>by rw[HD.out j hj,if_pos hj])
   subst ec ed
   clear HC HD sc sd
   go_wp2_with fail
   refine wp_region3 (Below w.heap.size w) wr.heap.size
    [(w.heap.size,fixd (BA (tb b p q)) 22),((w.heap.size+1),fixd (BA (tb b q p)) 22),((w.heap.size+1+1),once (BA 0) 22 2 (BA (tb b p q))),((w.heap.size+1+1+1),once (BA 0) 22 3 (BA (tb b q p)))]
    [kv (.agg (BA (tb b p q))),kv (.agg (BA (tb b q p))),.val fun _=>True,.val fun _=>True]
    [.none,.none,.base 2 1,.base 3 1]
    [some 38,some 39,none,none]
    [(4,.pointer (some ⟨w.heap.size,0,none⟩)),(5,.pointer (some ⟨(w.heap.size+1),0,none⟩)),(6,.pointer (some ⟨(w.heap.size+1+1),0,none⟩)),(7,.pointer (some ⟨(w.heap.size+1+1+1),0,none⟩))]
    [[.base 0 0],[.base 1 0],[.base 2 0,.slot 0],[.base 3 0,.slot 1]]
    [.base 2 1,.base 3 1] [38,39]
    rfl (by kernel_rfl) ⟨rfl,rfl,rfl,rfl,trivial⟩ (Below.drew hB) (Nat.le_refl _) ⟨⟨heap_lt g1,obIn g1⟩,⟨heap_lt g2,obIn g2⟩,⟨heap_lt g3,obIn g3⟩,⟨heap_lt g4,obIn g4⟩,trivial⟩ ⟨⟨trivial,(show (w.heap.size:Nat)≠(w.heap.size+1+1) from by omega),(show (w.heap.size:Nat)≠(w.heap.size+1+1+1) from by omega),trivial⟩,⟨(show ((w.heap.size+1):Nat)≠(w.heap.size+1+1) from by omega),(show ((w.heap.size+1):Nat)≠(w.heap.size+1+1+1) from by omega),trivial⟩,⟨(show ((w.heap.size+1+1):Nat)≠(w.heap.size+1+1+1) from by omega),trivial⟩,trivial,trivial⟩ (below_G hB.size ⟨by omega,by omega,by omega,by omega,trivial⟩)
    ⟨
     (fun _ _ _ _ _ _ fr kn=>sV (lookb rfl fr.1 (obAt kn.1))),
     (fun _ _ _ _ _ _ fr kn=>sV (lookb rfl fr.2.1 (obAt kn.1))),
     (fun _ _ _ _ _ _ fr kn=>.inl ⟨trivial,fun K hK=>actbytes rfl fr.2.2.1 kn.2.1 (obAt kn.1) (fun w2 hg ho=>hK _ _ ⟨⟨touch_only ho,obIn hg⟩,trivial⟩)⟩),
     (fun _ _ _ _ _ _ fr kn=>.inl ⟨trivial,fun K hK=>actbytes rfl fr.2.2.2.1 kn.2.1 (obAt kn.1) (fun w2 hg ho=>hK _ _ ⟨⟨touch_only ho,obIn hg⟩,trivial⟩)⟩),
     trivial⟩ ?_
   intro vs own v9 hB9 hs9 kn inj
   have g6:=obAt kn.1
   have g7:=obAt kn.2.1
   simp only[putAll,Act.put,List.setIfInBounds_toArray,List.set_cons_zero,List.set_cons_succ]
   go_wp2
   exact bodyPost_ret (v:=.tuple #[.agg (BA (tb b p q)),.agg (BA (tb b q p))]) (results_cells2 rfl _ _ _ _ rfl rfl _ _ g6 g7 (by rw[BA_size];exact info32) (by rw[BA_size];exact info32) Tryz.underlying22 rfl Tryz.underlying22 rfl) rfl ⟨rfl,hB9⟩
theorem setCells_heap {b:Nat} {t:TypeId}:∀ (vs:List Value) (o:Nat) (w:World) (C:Array Value),w.heap[b]?=some (.cells C t (0,0))→o+vs.length≤C.size →
  ∃ C':Array Value,(w.setCells b o vs).heap[b]?=some (.cells C' t (0,0))∧C'.size=C.size∧(∀ j,j<vs.length→C'[o+j]?=vs[j]?)∧(∀ j,j<o∨o+vs.length≤j→C'[j]?=C[j]?)∧Only b w (w.setCells b o vs)
 | [],_,w,C,hg,_=>⟨C,hg,rfl,fun j hj=>by simp at hj,fun _ _=>rfl,Only.refl b w⟩
 | x::vs,o,w,C,hg,hl=>by
  simp only[List.length_cons] at hl
  obtain ⟨C',h1,h2,h3,h4,h5⟩:=setCells_heap vs (o+1) (w.setCell ⟨b,o,none⟩ x) (C.setIfInBounds o x) (heap_setCell_same w b o C t x hg) (by simp;omega)
  refine ⟨C',h1,by rw[h2];simp,fun j hj=>?_,fun j hj=>?_,?_⟩
  ·cases j with
   | zero =>
    rw[Nat.add_zero,h4 o (.inl (by omega)),Array.getElem?_setIfInBounds]
    simp
    omega
   | succ j =>
    simp only[List.length_cons] at hj
    have:=h3 j (by omega)
    rw[show o+1+j=o+(j+1) by omega] at this
    rw[this];simp
  ·simp only[List.length_cons] at hj
   rw[h4 j (by omega),Array.getElem?_setIfInBounds,if_neg (by omega)]
  ·have o1:=(Only.refl b w).setCell o x
   exact ⟨h5.os.trans o1.os,h5.tape.trans o1.tape,h5.output.trans o1.output,h5.size.trans o1.size,fun k hk=>(h5.block k hk).trans (o1.block k hk)⟩
theorem Q4_ext {cs:Array Value} {x z v w:Int} (hs:cs.size=128) (h0:∀ j,j<32→cs[j]?=(BA x)[j]?) (h1:∀ j,j<32→cs[32+j]?=(BA z)[j]?) (h2:∀ j,j<32→cs[64+j]?=(BA v)[j]?) (h3:∀ j,j<32→cs[96+j]?=(BA w)[j]?):cs=Q4 x z v w:=by
 apply Array.ext_getElem?
 intro i
 by_cases a0:i<32
 ·rw[h0 i a0,Q4_0 x z v w i a0]
 ·by_cases a1:i<64
  ·have:=h1 (i-32) (by omega)
   have e:=Q4_1 x z v w (i-32) (by omega)
   rw[show 32+(i-32)=i by omega] at this e
   rw[this,e]
  ·by_cases a2:i<96
   ·have:=h2 (i-64) (by omega)
    have e:=Q4_2 x z v w (i-64) (by omega)
    rw[show 64+(i-64)=i by omega] at this e
    rw[this,e]
   ·by_cases a3:i<128
    ·have:=h3 (i-96) (by omega)
     have e:=Q4_3 x z v w (i-96) (by omega)
     rw[show 96+(i-96)=i by omega] at this e
     rw[this,e]
    ·rw[Array.getElem?_eq_none (by omega),Array.getElem?_eq_none (by rw[Q4_size];omega)]
theorem there_row {w:World} {b o n:Nat} {C:Array Value} {t:TypeId} (hg:w.heap[b]?=some (.cells C t (0,0))) (h:o+n≤C.size):w.there b o n:=fun j hj=>by
 refine ⟨?_,frozen_of_row w b (o+j) _ _ hg⟩
 rw[cell_of_row w b (o+j) _ _ _ hg,Array.getElem?_eq_getElem (by omega)]
 rfl
theorem st_in {ops:Array Oper} {rest:List Oper} {d:Option Tmp} {X Y:Operand} {t:TypeId} {ps:String} {af:Array Edge} {a:Act} {wd:World} {Q:Exit→Act→World→Prop} {g o:Nat} {n:Int} {C:Array Value} {ty:TypeId}
  (hx:a.eval X=.pointer (some ⟨g,o,none⟩)) (hy:a.eval Y=.agg (BA n)) (hg:wd.heap[g]?=some (.cells C ty (0,0))) (ho:o+32≤C.size)
  (h:∀ w2 C',w2.heap[g]?=some (.cells C' ty (0,0))→C'.size=C.size→(∀ j,j<32→C'[o+j]?=(BA n)[j]?)→(∀ j,j<o∨o+32≤j→C'[j]?=C[j]?)→Only g wd w2→wpList Tryz.prog ops Q rest (a.put d undef) w2) :
  wpList Tryz.prog ops Q ({ dst:=d,op:=.store 22 X Y,type:=t,pos:=ps,after:=af,guard:=none }::rest) a wd:=by
 have hl:(BA n).toList.length=32:=by rw[Array.length_toList,BA_size]
 obtain ⟨C',h1,h2,h3,h4,h5⟩:=setCells_heap (b:=g) (BA n).toList o wd C hg (by omega)
 rw[hl] at h3 h4
 exact wpList_store_mid rfl 22 X Y rfl g o (BA n) hx hy (there_row hg (by rw[BA_size];exact ho)) (by rw[BA_size];exact info32) (BA_one n)
  (h _ C' h1 h2 (fun j hj=>by rw[h3 j hj];simp) h4 h5)
theorem st_f0 {ops:Array Oper} {rest:List Oper} {d:Option Tmp} {X Y:Operand} {t:TypeId} {ps:String} {af:Array Edge} {a:Act} {wd:World} {Q:Exit→Act→World→Prop} {g:Nat} {n x z v w:Int} {ty:TypeId}
  (hx:a.eval X=.pointer (some ⟨g,0,none⟩)) (hy:a.eval Y=.agg (BA n)) (hg:wd.heap[g]?=some (.cells (Q4 x z v w) ty (0,0)))
  (h:∀ w2,w2.heap[g]?=some (.cells (Q4 n z v w) ty (0,0))→Only g wd w2→wpList Tryz.prog ops Q rest (a.put d undef) w2) :
  wpList Tryz.prog ops Q ({ dst:=d,op:=.store 22 X Y,type:=t,pos:=ps,after:=af,guard:=none }::rest) a wd :=
 st_in hx hy hg (by rw[Q4_size];omega) (fun w2 C' g2 s2 hin hout o2=>h w2 (by
  have e:=Q4_ext (cs:=C') (by rw[s2,Q4_size]) (fun j hj=>by have:=hin j hj;rwa [Nat.zero_add] at this) (fun j hj=>by rw[hout _ (by omega)];exact Q4_1 x z v w j hj) (fun j hj=>by rw[hout _ (by omega)];exact Q4_2 x z v w j hj) (fun j hj=>by rw[hout _ (by omega)];exact Q4_3 x z v w j hj)
  rw[e] at g2
  exact g2) o2)
theorem st_f1 {ops:Array Oper} {rest:List Oper} {d:Option Tmp} {X Y:Operand} {t:TypeId} {ps:String} {af:Array Edge} {a:Act} {wd:World} {Q:Exit→Act→World→Prop} {g:Nat} {n x z v w:Int} {ty:TypeId}
  (hx:a.eval X=.pointer (some ⟨g,32,none⟩)) (hy:a.eval Y=.agg (BA n)) (hg:wd.heap[g]?=some (.cells (Q4 x z v w) ty (0,0)))
  (h:∀ w2,w2.heap[g]?=some (.cells (Q4 x n v w) ty (0,0))→Only g wd w2→wpList Tryz.prog ops Q rest (a.put d undef) w2) :
  wpList Tryz.prog ops Q ({ dst:=d,op:=.store 22 X Y,type:=t,pos:=ps,after:=af,guard:=none }::rest) a wd :=
 st_in hx hy hg (by rw[Q4_size];omega) (fun w2 C' g2 s2 hin hout o2=>h w2 (by
  have e:=Q4_ext (cs:=C') (by rw[s2,Q4_size]) (fun j hj=>by rw[hout _ (by omega)];exact Q4_0 x z v w j hj) hin (fun j hj=>by rw[hout _ (by omega)];exact Q4_2 x z v w j hj) (fun j hj=>by rw[hout _ (by omega)];exact Q4_3 x z v w j hj)
  rw[e] at g2
  exact g2) o2)
theorem st_f2 {ops:Array Oper} {rest:List Oper} {d:Option Tmp} {X Y:Operand} {t:TypeId} {ps:String} {af:Array Edge} {a:Act} {wd:World} {Q:Exit→Act→World→Prop} {g:Nat} {n x z v w:Int} {ty:TypeId}
  (hx:a.eval X=.pointer (some ⟨g,64,none⟩)) (hy:a.eval Y=.agg (BA n)) (hg:wd.heap[g]?=some (.cells (Q4 x z v w) ty (0,0)))
  (h:∀ w2,w2.heap[g]?=some (.cells (Q4 x z n w) ty (0,0))→Only g wd w2→wpList Tryz.prog ops Q rest (a.put d undef) w2) :
  wpList Tryz.prog ops Q ({ dst:=d,op:=.store 22 X Y,type:=t,pos:=ps,after:=af,guard:=none }::rest) a wd :=
 st_in hx hy hg (by rw[Q4_size];omega) (fun w2 C' g2 s2 hin hout o2=>h w2 (by
  have e:=Q4_ext (cs:=C') (by rw[s2,Q4_size]) (fun j hj=>by rw[hout _ (by omega)];exact Q4_0 x z v w j hj) (fun j hj=>by rw[hout _ (by omega)];exact Q4_1 x z v w j hj) hin (fun j hj=>by rw[hout _ (by omega)];exact Q4_3 x z v w j hj)
  rw[e] at g2
  exact g2) o2)
theorem st_f3 {ops:Array Oper} {rest:List Oper} {d:Option Tmp} {X Y:Operand} {t:TypeId} {ps:String} {af:Array Edge} {a:Act} {wd:World} {Q:Exit→Act→World→Prop} {g:Nat} {n x z v w:Int} {ty:TypeId}
  (hx:a.eval X=.pointer (some ⟨g,96,none⟩)) (hy:a.eval Y=.agg (BA n)) (hg:wd.heap[g]?=some (.cells (Q4 x z v w) ty (0,0)))
  (h:∀ w2,w2.heap[g]?=some (.cells (Q4 x z v n) ty (0,0))→Only g wd w2→wpList Tryz.prog ops Q rest (a.put d undef) w2) :
  wpList Tryz.prog ops Q ({ dst:=d,op:=.store 22 X Y,type:=t,pos:=ps,after:=af,guard:=none }::rest) a wd :=
 st_in hx hy hg (by rw[Q4_size];omega) (fun w2 C' g2 s2 hin hout o2=>h w2 (by
  have e:=Q4_ext (cs:=C') (by rw[s2,Q4_size]) (fun j hj=>by rw[hout _ (by omega)];exact Q4_0 x z v w j hj) (fun j hj=>by rw[hout _ (by omega)];exact Q4_1 x z v w j hj) (fun j hj=>by rw[hout _ (by omega)];exact Q4_2 x z v w j hj) hin
  rw[e] at g2
  exact g2) o2)
theorem swapped_any (b:Bool) (x z v w:Int) (wd:World) :
  Calls Tryz.prog 134 #[.agg (Q4 x z v w),.int .u8 (bI b)] wd fun e w'=>e=.returned (.agg (Q4 (tb b x v) (tb b z w) (tb b v x) (tb b w z)))∧Below wd.heap.size wd w':=by
 have hzero:=zero_rungs
 go_enter Tryz.func134,Tryz.ntmps134
 go_wp2_with (first
  | (refine ld_mid rfl _ rfl wd.heap.size 0 x rfl (range_in (heap_alloc2_old wd _ _) (fun j hj=>by rw[Nat.zero_add];exact Q4_0 x z v w j hj)) ?_)
  | (refine ld_mid rfl _ rfl wd.heap.size 64 v rfl (range_in (heap_alloc2_old wd _ _) (Q4_2 x z v w)) ?_))
 have g2:(((wd.alloc (.cells (Q4 x z v w) 136 (0,0))).alloc (.cells (Q4 0 0 0 0) 136 (0,0)))).heap[wd.heap.size]?=some (.cells (Q4 x z v w) 136 (0,0)):=heap_alloc2_old wd _ _
 have g4:(((wd.alloc (.cells (Q4 x z v w) 136 (0,0))).alloc (.cells (Q4 0 0 0 0) 136 (0,0)))).heap[wd.heap.size+1]?=some (.cells (Q4 0 0 0 0) 136 (0,0)):=heap_alloc2_new wd _ _
 have hB:Below wd.heap.size wd ((wd.alloc (.cells (Q4 x z v w) 136 (0,0))).alloc (.cells (Q4 0 0 0 0) 136 (0,0))):=by repeat first | exact Below.refl _ _ | refine Below.alloc ?_ (by simp<;>omega) _
 clear hzero
 refine (swap_any b x v _).mono ?_
 rintro e v1 ⟨rfl,hb⟩
 replace g2:=bheap hb g2 (heap_lt g2)
 replace g4:=bheap hb g4 (heap_lt g4)
 replace hB:=Below.trans hB (hb.mono hB.size)
 clear hb
 go_wp2_with (refine st_f0 (g:=wd.heap.size) (n:=tb b x v) (x:=x) (z:=z) (v:=v) (w:=w) (by rfl) (by rfl) g2 ?_;intro v2 g22 o2;refine Hid.out ?_)
 clear g2
 have g2:=g22
 clear g22
 replace g4:=(o2.block _ (by omega)).trans g4
 replace hB:=Below.trans hB (Only.below (b:=wd.heap.size) (B:=wd.heap.size) o2 (Nat.le_refl _))
 clear o2
 refine Hid.mk ?_
 go_wp2_with (refine st_f2 (g:=wd.heap.size) (n:=tb b v x) (x:=tb b x v) (z:=z) (v:=v) (w:=w) (by rfl) (by rfl) g2 ?_;intro v3 g22 o2;refine Hid.out ?_)
 clear g2
 have g2:=g22
 clear g22
 replace g4:=(o2.block _ (by omega)).trans g4
 replace hB:=Below.trans hB (Only.below (b:=wd.heap.size) (B:=wd.heap.size) o2 (Nat.le_refl _))
 clear o2
 refine Hid.mk ?_
 go_wp2_with (first
  | (refine ld_mid rfl _ rfl wd.heap.size 32 z rfl (range_in g2 (Q4_1 _ z _ w)) ?_)
  | (refine ld_mid rfl _ rfl wd.heap.size 96 w rfl (range_in g2 (Q4_3 _ z _ w)) ?_))
 refine (swap_any b z w _).mono ?_
 rintro e v4 ⟨rfl,hb⟩
 replace g2:=bheap hb g2 (heap_lt g2)
 replace g4:=bheap hb g4 (heap_lt g4)
 replace hB:=Below.trans hB (hb.mono hB.size)
 clear hb
 go_wp2_with (refine st_f1 (g:=wd.heap.size) (n:=tb b z w) (x:=tb b x v) (z:=z) (v:=tb b v x) (w:=w) (by rfl) (by rfl) g2 ?_;intro v5 g22 o2;refine Hid.out ?_)
 clear g2
 have g2:=g22
 clear g22
 replace g4:=(o2.block _ (by omega)).trans g4
 replace hB:=Below.trans hB (Only.below (b:=wd.heap.size) (B:=wd.heap.size) o2 (Nat.le_refl _))
 clear o2
 refine Hid.mk ?_
 go_wp2_with (refine st_f3 (g:=wd.heap.size) (n:=tb b w z) (x:=tb b x v) (z:=tb b z w) (v:=tb b v x) (w:=w) (by rfl) (by rfl) g2 ?_;intro v6 g22 o2;refine Hid.out ?_)
 clear g2
 have g2:=g22
 clear g22
 replace g4:=(o2.block _ (by omega)).trans g4
 replace hB:=Below.trans hB (Only.below (b:=wd.heap.size) (B:=wd.heap.size) o2 (Nat.le_refl _))
 clear o2
 refine Hid.mk ?_
 go_wp2_with (first
  | (refine ld_rungs rfl _ rfl wd.heap.size (tb b x v) (tb b z w) (tb b v x) (tb b w z) rfl g2 ?_)
  | (refine st_rungs (g:=wd.heap.size+1) (x:=tb b x v) (z:=tb b z w) (v:=tb b v x) (w:=tb b w z) (old:=Q4 0 0 0 0) (by rfl) (by rfl) g4 (Q4_size 0 0 0 0) ?_;intro w3 g3 o3))
 exact bodyPost_ret (v:=.agg (Q4 (tb b x v) (tb b z w) (tb b v x) (tb b w z))) (results_cell_row rfl _ _ _ _ _ _ _ rfl g3 Tryz.underlying136 rfl (by rw[Q4_size];exact info128r)) rfl
  ⟨rfl,Below.trans hB (Only.below (b:=wd.heap.size+1) (B:=wd.heap.size) o3 (by omega))⟩
end Go.Proofs.YthghcjepdhkfdaaGreatDoor.Fld
