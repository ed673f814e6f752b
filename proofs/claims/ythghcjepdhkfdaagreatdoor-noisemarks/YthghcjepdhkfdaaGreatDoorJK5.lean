/-
  Own text. What a MAC stands for: the blocks so far, and what is left of one.
-/
import Derived.Test.YthghcjepdhkfdaaGreatDoorJK4
import Derived.Test.YthghcjepdhkfdaaGreatDoorJK1
import Derived.Lib.BufferMore
import Derived.Lib.SlBytesConst
import Derived.ArgAppend
import Derived.Laws.CopyOwn
set_option maxHeartbeats 16000000
set_option maxRecDepth 100000
namespace Go.Proofs.YthghcjepdhkfdaaGreatDoor
open Go.RowKit Go.Proofs
theorem accN_eq {r:Int} {f f':Nat→Int} {n n':Nat}:∀ (k:Nat),16*k≤n→16*k≤n'→(∀ i,i<16*k→f i=f' i)→accN r f n k=accN r f' n' k
 | 0,_,_,_=>rfl
 | k+1,h1,h2,h=>by
  unfold accN
  rw[accN_eq (n:=n) (n':=n') (f:=f) (f':=f') k (by omega) (by omega) (fun i hi=>h i (by omega)),show min 16 (n-16*k)=16 by omega,show min 16 (n' - 16*k)=16 by omega]
  unfold blkN
  rw[dval_congr (t:=fun i=>f' (16*k+i)) (fun i hi=>h _ (by omega))]
structure St (key f:Nat→Int) (n:Nat) (R S Z H:Nat→Int):Prop where
 rd:Dg 67108864 5 R
 rn:qv R 5=rN key
 s0:U64 (S 0)
 s1:U64 (S 1)
 sn:S 0+18446744073709551616*S 1=sN key
 zs:Sm Z
 zn:qv Z 5%P130=accN (rN key) f n (n/16)
 hb:Byts 16 H
 he:∀ j,j<n%16→H j=f (16*(n/16)+j)
theorem St.congr {key f f':Nat→Int} {n:Nat} {R S Z H:Nat→Int} (h:St key f n R S Z H) (e:∀ i,i<n→f i=f' i):St key f' n R S Z H :=
 ⟨h.rd,h.rn,h.s0,h.s1,h.sn,h.zs,by rw[h.zn];exact accN_eq (n/16) (by omega) (by omega) (fun i hi=>e i (by omega)),h.hb,fun j hj=>by rw[h.he j hj];exact e _ (by omega)⟩
theorem acc_step {A B r Y q:Int} (h:(A+B)*r=Y+P130*q):Y%P130=(A%P130+B)*r%P130:=by
 have e:Y=(A+B)*r+P130*(-q):=by rw[Int.mul_neg];omega
 rw[e,Int.add_mul_emod_self_left,Int.mul_emod,← Int.emod_add_emod,← Int.mul_emod]
theorem St.part {key f:Nat→Int} {n m:Nat} {R S Z H H':Nat→Int} (h:St key f n R S Z H) (hm:n%16+m<16) (hb:Byts 16 H') (he:∀ j,j<n%16+m→H' j=f (16*(n/16)+j)):St key f (n+m) R S Z H':=by
 have e1:(n+m)/16=n/16:=by omega
 have e2:(n+m)%16=n%16+m:=by omega
 refine ⟨h.rd,h.rn,h.s0,h.s1,h.sn,h.zs,?_,hb,fun j hj=>?_⟩
 ·rw[h.zn,e1]
  exact accN_eq _ (by omega) (by omega) (fun _ _=>rfl)
 ·rw[e2] at hj
  rw[e1]
  exact he j hj
theorem St.full {key f:Nat→Int} {n m:Nat} {R S Z H H' z:Nat→Int} (h:St key f n R S Z H) (hm:n%16+m=16) (hb:Byts 16 H') (he:∀ j,j<16→H' j=f (16*(n/16)+j)) (hz:Sm z)
  {q:Int} (hq:(qv Z 5+(dval H' 16+256 ^ 16))*qv R 5=qv z 5+P130*q):St key f (n+m) R S z H':=by
 have e1:(n+m)/16=n/16+1:=by omega
 have e2:(n+m)%16=0:=by omega
 refine ⟨h.rd,h.rn,h.s0,h.s1,h.sn,hz,?_,hb,fun j hj=>by omega⟩
 rw[acc_step hq,h.zn,h.rn,e1]
 show _=(accN (rN key) f (n+m) (n/16)+blkN f (16*(n/16)) (min 16 (n+m-16*(n/16))))*rN key%P130
 rw[show min 16 (n+m-16*(n/16))=16 by omega,accN_eq (n:=n) (n':=n+m) (f:=f) (f':=f) (n/16) (by omega) (by omega) (fun _ _=>rfl)]
 unfold blkN
 rw[dval_congr he]
theorem St.left {key f:Nat→Int} {n:Nat} {R S Z H z:Nat→Int} (h:St key f n R S Z H) (hn:0<n%16) {q:Int} (hq:(qv Z 5+(dval H (n%16)+256 ^ (n%16)))*qv R 5=qv z 5+P130*q) :
  (qv z 5%P130+(S 0+18446744073709551616*S 1))%340282366920938463463374607431768211456=markN key f n:=by
 unfold markN
 rw[acc_step hq,h.zn,h.rn,h.sn,show (n+15)/16=n/16+1 by omega]
 show _=((accN (rN key) f n (n/16)+blkN f (16*(n/16)) (min 16 (n-16*(n/16))))*rN key%P130+sN key)%340282366920938463463374607431768211456
 rw[show min 16 (n-16*(n/16))=n%16 by omega]
 unfold blkN
 rw[dval_congr h.he]
theorem St.none {key f:Nat→Int} {n:Nat} {R S Z H:Nat→Int} (h:St key f n R S Z H) (hn:n%16=0) :
  (qv Z 5%P130+(S 0+18446744073709551616*S 1))%340282366920938463463374607431768211456=markN key f n:=by
 unfold markN
 rw[h.zn,h.sn,show (n+15)/16=n/16 by omega]
def MacN (w:World) (b:Nat) (key f:Nat→Int) (n:Nat):Prop:=∃ R S Z H,MacAt w b R S Z H ((n%16:Nat):Int)∧St key f n R S Z H
theorem MacN.congr {w:World} {b:Nat} {key f f':Nat→Int} {n:Nat} (h:MacN w b key f n) (e:∀ i,i<n→f i=f' i):MacN w b key f' n:=by
 obtain ⟨R,S,Z,H,h,hs⟩:=h
 exact ⟨R,S,Z,H,h,hs.congr e⟩
theorem Only.touch {b:Nat} {w w':World} (h:Only b w w'):Touch (fun k=>k=b) w w':=touch_only h
theorem Below.touch {w w':World} (b:Nat) (h:Below w.heap.size w w'):Touch (fun k=>k=b) w w':=⟨h.os,h.tape,h.output,h.size,fun k hk _=>h.block k hk⟩
-- r and s out of the key
theorem and_split (A B M N k:Nat) (hA:A<2 ^ k) (hM:M<2 ^ k):(A+2 ^ k*B) &&& (M+2 ^ k*N)=(A &&& M)+2 ^ k*(B &&& N):=by
 apply Nat.eq_of_testBit_eq
 intro i
 have h1:A &&& M<2 ^ k:=Nat.lt_of_le_of_lt Nat.and_le_left hA
 rw[Nat.testBit_and,Nat.add_comm A,Nat.add_comm M,Nat.add_comm (A &&& M),Nat.testBit_two_pow_mul_add _ hA,Nat.testBit_two_pow_mul_add _ hM,Nat.testBit_two_pow_mul_add _ h1]
 split
 ·rw[Nat.testBit_and]
 ·rw[Nat.testBit_and]
theorem and28 (A:Nat):A &&& 268435455=A%268435456:=Nat.and_two_pow_sub_one_eq_mod A 28
theorem and28c (A:Nat):A &&& 268435452=A%268435456/4*4:=by
 have h:=and_split (A%4) (A/4) 0 67108863 2 (by omega) (by decide)
 rw[show A%4+2 ^ 2*(A/4)=A by omega,show 0+2 ^ 2*67108863=268435452 from rfl,Nat.and_zero] at h
 have h2:A/4 &&& 67108863=A/4%67108864:=Nat.and_two_pow_sub_one_eq_mod (A/4) 26
 rw[h,h2]
 omega
theorem and_lowR {x:Int} (h0:0≤x) (h1:x<18446744073709551616):bits BinOp.and IntKind.u64 x 1152921487695413247=x%268435456+4294967296*(x/4294967296%268435456/4*4):=by
 obtain ⟨n,rfl⟩:=Int.eq_ofNat_of_zero_le h0
 have h:=and_split (n%4294967296) (n/4294967296) 268435455 268435452 32 (by omega) (by decide)
 rw[show n%4294967296+2 ^ 32*(n/4294967296)=n by omega,show 268435455+2 ^ 32*268435452=1152921487695413247 from rfl,and28,and28c] at h
 rw[show (1152921487695413247:Int)=((1152921487695413247:Nat):Int) from rfl,bits_and_u64_nat _ _ (by omega) (by omega),h]
 omega
theorem and_highR {x:Int} (h0:0≤x) (h1:x<18446744073709551616):bits BinOp.and IntKind.u64 x 1152921487695413244=x%268435456/4*4+4294967296*(x/4294967296%268435456/4*4):=by
 obtain ⟨n,rfl⟩:=Int.eq_ofNat_of_zero_le h0
 have h:=and_split (n%4294967296) (n/4294967296) 268435452 268435452 32 (by omega) (by decide)
 rw[show n%4294967296+2 ^ 32*(n/4294967296)=n by omega,show 268435452+2 ^ 32*268435452=1152921487695413244 from rfl,and28c,and28c] at h
 rw[show (1152921487695413244:Int)=((1152921487695413244:Nat):Int) from rfl,bits_and_u64_nat _ _ (by omega) (by omega),h]
 omega
theorem dval8 (s:Nat→Int):dval s 8=s 0+256*s 1+65536*s 2+16777216*s 3+4294967296*s 4+1099511627776*s 5+281474976710656*s 6+72057594037927936*s 7:=by
 simp only[dval,Int.reducePow,Int.pow_zero]
 omega
theorem low_r {key:Nat→Int} (hk:Byts 32 key):bits BinOp.and IntKind.u64 (dval key 8) 1152921487695413247=dval (rdig key) 8:=by
 have hb:=dval8_b (s:=key) (fun i hi=>hk i (by omega))
 rw[and_lowR hb.1 hb.2,dval8 key,dval8 (rdig key)]
 have h0:=hk 0 (by decide)
 have h1:=hk 1 (by decide)
 have h2:=hk 2 (by decide)
 have h3:=hk 3 (by decide)
 have h4:=hk 4 (by decide)
 have h5:=hk 5 (by decide)
 have h6:=hk 6 (by decide)
 have h7:=hk 7 (by decide)
 simp[rdig]
 omega
theorem high_r {key:Nat→Int} (hk:Byts 32 key):bits BinOp.and IntKind.u64 (dval (fun j=>key (8+j)) 8) 1152921487695413244=dval (fun j=>rdig key (8+j)) 8:=by
 have hb:=dval8_b (s:=fun j=>key (8+j)) (fun i hi=>hk (8+i) (by omega))
 rw[and_highR hb.1 hb.2,dval8 (fun j=>key (8+j)),dval8 (fun j=>rdig key (8+j))]
 have h0:=hk 8 (by decide)
 have h1:=hk 9 (by decide)
 have h2:=hk 10 (by decide)
 have h3:=hk 11 (by decide)
 have h4:=hk 12 (by decide)
 have h5:=hk 13 (by decide)
 have h6:=hk 14 (by decide)
 have h7:=hk 15 (by decide)
 simp[rdig]
 omega
theorem copy_mac {w:World} {b h m dC:Nat} {R S Z H:Nat→Int} {l:Int} (ty:TypeId) (t:ByteArray) (gm:MacAt w b R S Z H l) (hh:h<16) (hm:m=min t.size (16-h)) :
  (Builtin.copy_ #[81,9] ty #[.slice (some ⟨b,12+h,none⟩) (16-h) dC,.string t]).run Tryz.prog w=.ok (goInt m) (w.setCells b (12+h) (nums .u8 m (txt t))):=by
 have hmin:Nat.min t.size (16-h)=m:=hm.symm
 have hst:=run_storeCells_cells (P:=Tryz.prog) b (12+h) (nums .u8 m (txt t)) 0 w (by
   intro j hj
   rw[nums_len] at hj
   rw[Nat.add_zero,gm.at _ (by omega)]
   rfl) (fun j _=>gm.free _) nums_one
 simp[Builtin.copy_,run_underlying Tryz.underlying81,Builtin.lenOf,Builtin.firstCells,hmin]
 rw[take_nums t m (by omega),hst]
 rfl
theorem len16:Tryz.prog.arrayLen 54=16:=by kernel_rfl
theorem sizeB16 (w:World):(sizeOf (Tryz.prog.elem 54)).run Tryz.prog w=.ok 1 w:=by kernel_rfl
theorem sl16m (b l:Nat) (w:World) (hl:l<16):(Instr.sliceAt 54 (.pointer (some ⟨b,12,none⟩)) (some (.int .i64 (l:Int))) none none).run Tryz.prog w=.ok (.slice (some ⟨b,12+l,none⟩) (16-l) (16-l)) w:=by
 rw[run_sliceAt_array_l (P:=Tryz.prog) w 54 ⟨b,12,none⟩ Tryz.underlying54 .i64 (l:Int) (by omega) (by rw[len16];omega),sizeB16,len16]
 simp only[Result.andThen_ok,slicedAt,Int.toNat_natCast,Nat.mul_one]
 rw[if_neg (by omega),Addr.add_lit]
theorem sl16h (b l:Nat) (w:World) (hl:l≤16):(Instr.sliceAt 54 (.pointer (some ⟨b,12,none⟩)) none (some (.int .i64 (l:Int))) none).run Tryz.prog w=.ok (.slice (some ⟨b,12,none⟩) l 16) w:=by
 rw[run_sliceAt_array_h (P:=Tryz.prog) w 54 ⟨b,12,none⟩ Tryz.underlying54 .i64 (l:Int) (by omega) (by rw[len16];omega),len16]
 simp only[sizeB16,Result.andThen_ok,slicedAt]
 rw[if_neg (by omega),Addr.add_lit]
 rfl
theorem st_sum {ops:Array Oper} {rest:List Oper} {d:Option Tmp} {x y:Operand} {t:TypeId} {ps:String} {af:Array Edge} {a:Act} {w:World} {Q:Exit→Act→World→Prop} {b:Nat} {R S Z H z:Nat→Int} {l:Int}
  (gm:MacAt w b R S Z H l) (hx:a.eval x=.pointer (some ⟨b,7,none⟩)) (hy:a.eval y=.agg (WA .u64 5 z)) (h:∀ w2,MacAt w2 b R S z H l→Only b w w2→wpList Tryz.prog ops Q rest (a.put d undef) w2) :
  wpList Tryz.prog ops Q ({ dst:=d,op:=.store 247 x y,type:=t,pos:=ps,after:=af,guard:=none }::rest) a w:=by
 obtain ⟨_,_,_,h3⟩:=isL
 have h2:=gm.setSum z
 exact wpList_store_mid rfl 247 x y rfl b 7 (WA .u64 5 z) hx hy (fun j hj=>by rw[WA_size] at hj;exact ⟨by rw[gm.at (7+j) (by omega)];rfl,gm.free _⟩) (by rw[WA_size];exact h3) (WA_one .u64 5 z) (h _ h2.1 h2.2)
theorem add_run (b:Nat) (key f:Nat→Int) (n:Nat) (s:ByteArray) (w:World) (hM:MacN w b key f n) :
  Calls Tryz.prog 222 #[.pointer (some ⟨b,0,none⟩),.string s] w fun e w'=>e=.returned (.tuple #[])∧MacN w' b key (cat n f (txt s)) (n+s.size)∧Touch (fun x=>x=b) w w':=by
 replace hM:=hM.congr (f':=cat n f (txt s)) (fun i hi=>by unfold cat;rw[if_pos hi])
 have hE:∀ j,cat n f (txt s) (n+j)=txt s j:=fun j=>by unfold cat;rw[if_neg (by omega),Nat.add_sub_cancel_left]
 generalize cat n f (txt s)=g at *
 have HE:=Hid.mk hE
 clear hE
 go_enter Tryz.func222,Tryz.ntmps222
 go_wp2_with fail
 go_loopg [1] s.size (fun gm pv v=>∃ k:Nat,Hid (gm+k=s.size)∧pv=.string (s.extract k s.size)∧MacN v b key g (n+k)∧Touch (fun x=>x=b) w v)
 case atStart=>exact ⟨0,Hid.mk rfl,by simp,hM,Touch.refl _ _⟩
 case round =>
  clear hM
  obtain ⟨k,HK,rfl,hM,ht⟩:=hrel
  have hks:k≤s.size:=by have:=HK.out;omega
  have hsz:=extract_size s k
  obtain ⟨t,ht0⟩:∃ t,s.extract k s.size=t:=⟨_,rfl⟩
  have HT:Hid (∀ j,k+j<s.size→txt t j=g (n+k+j)):=Hid.mk (fun j hj=>by rw[← ht0,txt_extract s k j hj,Nat.add_assoc,HE.out])
  rw[ht0] at hsz
  rw[ht0]
  by_cases hkl:k<s.size
  ·obtain ⟨R,S,Z,H,gm,hst⟩:=hM
   obtain ⟨h,hh⟩:∃ h,(n+k)%16=h:=⟨_,rfl⟩
   rw[hh] at gm
   have HST:=Hid.mk hst
   clear hst
   have HH:Hid (h<16):=Hid.mk (by omega)
   obtain ⟨m,hm⟩:∃ m,m=min t.size (16-h):=⟨_,rfl⟩
   have hpos:(0:Int)<(t.size:Int):=by omega
   have hsl:=fun v=>sl16m b h v (by omega)
   have hcp2:=copy_mac (dC:=16-h) 3 t gm.drew (by omega) hm
   have hch:=gm.held
   have hset:=gm.drew.setRest h m (txt t) (by omega)
   have HX:Hid (t.extract m t.size=s.extract (k+m) s.size):=Hid.mk (by
    have h1:(t.extract m t.size).size=s.size-(k+m):=by rw[extract_size];omega
    have h2:=extract_size s (k+m)
    rw[← mkS_txt (t.extract m t.size),← mkS_txt (s.extract (k+m) s.size),h1,h2]
    refine mkS_congr (fun j hj=>?_)
    rw[txt_extract t m j (by omega),txt_extract s (k+m) j (by omega),← ht0,txt_extract s k (m+j) (by omega),Nat.add_assoc])
   have HO:Hid (∀ j,j<h+m→over H h m (txt t) j=g (16*((n+k)/16)+j)):=Hid.mk (fun j hj=>by
    unfold over
    split
    ·rw[HT.out (j-h) (by omega)]
     congr 1
     omega
    ·exact HST.out.he j (by omega))
   have HB:Hid (Byts 16 (over H h m (txt t))):=Hid.mk (fun i hi=>by
    unfold over
    split
    ·exact txt_b t _
    ·exact HST.out.hb i hi)
   have hmt:(m:Int)≤(t.size:Int):=by omega
   have hm1:1≤m∧k+m≤s.size∧h+m≤16:=by omega
   have hwr:=i64_wrap (n:=(h:Int)+(m:Int)) (by omega) (by omega)
   have HZ:=Hid.mk hsz
   have HM:=Hid.mk hm
   clear hsz hm HT ht0
   generalize gk=gz at *
   go_wp2_with fail
   go_region
   generalize over H h m (txt t)=H' at *
   generalize wr.drew.setCells b (12+h) (nums .u8 m (txt t))=v5 at *
   obtain ⟨gm5,o5⟩:=hset
   have ht5:Touch (fun x=>x=b) w v5:=(Touch.drew ht).trans o5.touch
   clear hcp2 hsl o5 gm hch ht
   have hch:=gm5.held
   have hcf:=gm5.free 28
   have gm6:=gm5.setHeld ((h:Int)+(m:Int))
   have ht6:Touch (fun x=>x=b) w (v5.setCell ⟨b,28,none⟩ (.int .i64 ((h:Int)+(m:Int)))):=ht5.trans (only_set (g:=b) (i:=28)).touch
   by_cases hfull:h+m=16
   ·have hfi:(h:Int)+(m:Int)=16:=by omega
    have hfd:((h:Int)+(m:Int)==16)=true:=by simpa using hfi
    rw[hfi] at gm6 ht6
    go_wp2_with fail
    refine (behind_run b 16 16 R S Z H' 16 _ gm6 HST.out.zs HST.out.rd HB.out (Nat.le_refl _)).mono ?_
    rintro e v7 ⟨z,hz,⟨q,hq⟩,rfl,hb⟩
    have gm7:=gm6.kept hb
    have ht7:=ht6.trans (Below.touch b hb)
    have HQ:=Hid.mk (And.intro hz hq)
    clear hb gm6 ht6 gm5 ht5 hch hcf hz hq
    go_wp2_with (refine st_sum gm7 (by rfl) (by rfl) ?_;intro v8 gm8 o8;refine Hid.out ?_)
    have ht8:=ht7.trans o8.touch
    have hcf:=gm8.free 28
    have hch:=gm8.held
    have gm9:=gm8.setHeld 0
    have ht9:Touch (fun x=>x=b) w (v8.setCell ⟨b,28,none⟩ (.int .i64 0)):=ht8.trans (only_set (g:=b) (i:=28)).touch
    clear o8 gm7 ht7
    refine Hid.mk ?_
    go_wp2_with fail
    go_roundg (s.size-(k+m))
    case rel=>exact ⟨k+m,Hid.mk (by omega),congrArg Value.string HX.out,⟨R,S,z,H',by rw[show ((((n+(k+m))%16:Nat)):Int)=0 by omega];exact gm9,by rw[← Nat.add_assoc];exact HST.out.full (by omega) HB.out (fun j hj=>HO.out j (by omega)) HQ.out.1 HQ.out.2⟩,ht9⟩
    case measure=>have:=HK.out;omega
   ·have hfi:¬ ((h:Int)+(m:Int)=16):=by omega
    have hfd:((h:Int)+(m:Int)==16)=false:=by simpa using hfi
    go_wp2_with fail
    go_roundg (s.size-(k+m))
    case rel=>exact ⟨k+m,Hid.mk (by omega),congrArg Value.string HX.out,⟨R,S,Z,H',by rw[show ((((n+(k+m))%16:Nat)):Int)=(h:Int)+(m:Int) by omega];exact gm6,by rw[← Nat.add_assoc];exact HST.out.part (by omega) HB.out (by rw[hh];exact HO.out)⟩,ht6⟩
    case measure=>have:=HK.out;omega
  ·have hk2:k=s.size:=by omega
   subst hk2
   have hz0:t.size=0:=by omega
   go_wp2_with fail
   go_end0
   exact ⟨rfl,hM,ht⟩
def knM (l:List (Option Value)) (K:Value→World→Prop) (i:Nat) (v:Value) (w:World):Prop:=match l.getD i none with
 | some u=>v=u
 | none=>K v w
theorem knM_keeps {l:List (Option Value)} {K:Value→World→Prop} (hK:∀ v w w',K v w→Below w.heap.size w w'→K v w'):∀ (i:Nat) v w w',knM l K i v w→Below w.heap.size w w'→knM l K i v w':=by
 intro i v w w' h hb
 unfold knM at *
 generalize l.getD i none=o at *
 cases o with
 | some u=>exact h
 | none=>exact hK v w w' h hb
def pk2 (a b:Int):Nat→Int
 | 0=>a
 | 1=>b
 | _=>0
def rL (key:Nat→Int):Nat→Int:=lofs (dval (rdig key) 8) (dval (fun j=>rdig key (8+j)) 8) 0
def sL (key:Nat→Int):Nat→Int:=pk2 (dval (fun j=>key (16+j)) 8) (dval (fun j=>key (24+j)) 8)
theorem sl32a (b:Nat) (w:World):(Instr.sliceAt 22 (.pointer (some ⟨b,0,none⟩)) none (some (.int .i64 8)) none).run Tryz.prog w=.ok (.slice (some ⟨b,0,none⟩) 8 32) w:=by simp[go_sem]
theorem sl32b (b:Nat) (w:World):(Instr.sliceAt 22 (.pointer (some ⟨b,0,none⟩)) (some (.int .i64 8)) (some (.int .i64 16)) none).run Tryz.prog w=.ok (.slice (some ⟨b,8,none⟩) 8 24) w:=by simp[go_sem]
theorem sl32c (b:Nat) (w:World):(Instr.sliceAt 22 (.pointer (some ⟨b,0,none⟩)) (some (.int .i64 16)) (some (.int .i64 24)) none).run Tryz.prog w=.ok (.slice (some ⟨b,16,none⟩) 8 16) w:=by simp[go_sem]
theorem sl32d (b:Nat) (w:World):(Instr.sliceAt 22 (.pointer (some ⟨b,0,none⟩)) (some (.int .i64 24)) none none).run Tryz.prog w=.ok (.slice (some ⟨b,24,none⟩) 8 8) w:=by simp[go_sem]
theorem exec_and64 {a:Act} {o:Oper} {w:World} {x y:Operand} (ho:o.op=.binOp .and 98 x y 98) {m n:Int} (hx:a.eval x=.int .u64 m) (hy:a.eval y=.int .u64 n) :
  (execOp a.eval o).run Tryz.prog w=.ok (.value (.int .u64 (bits .and .u64 m n))) w:=exec_bin ho rfl hx hy (by simp[go_sem])
theorem run_build2 (x y:Int) (w:World):(Instr.build 249 #[(0,.int .u64 x),(1,.int .u64 y)]).run Tryz.prog w=.ok (.agg #[.int .u64 x,.int .u64 y]) w:=by kernel_rfl
theorem exec_build2 {a:Act} {o:Oper} {w:World} {x y:Operand} (ho:o.op=.build 249 #[(0,x),(1,y)]) {m n:Int} (hx:a.eval x=.int .u64 m) (hy:a.eval y=.int .u64 n):(execOp a.eval o).run Tryz.prog w=.ok (.value (.agg (WA .u64 2 (pk2 m n)))) w:=by
 have h:=run_build2 m n w
 unfold execOp
 simp only[ho,List.map_toArray,List.map_cons,List.map_nil,hx,hy,Sem.run_bind,h,Result.andThen_ok,Sem.run_pure]
 rfl
theorem run_buildM (R S:Nat→Int) (w:World):(Instr.build 251 #[(0,.agg (WA .u64 5 R)),(1,.agg (WA .u64 2 S))]).run Tryz.prog w=.ok (.agg (macC R S (fun _=>0) (fun _=>0) 0)) w:=by kernel_rfl
theorem exec_buildM {a:Act} {o:Oper} {w:World} {x y:Operand} (ho:o.op=.build 251 #[(0,x),(1,y)]) {R S:Nat→Int} (hx:a.eval x=.agg (WA .u64 5 R)) (hy:a.eval y=.agg (WA .u64 2 S)):(execOp a.eval o).run Tryz.prog w=.ok (.value (.agg (macC R S (fun _=>0) (fun _=>0) 0))) w:=by
 have h:=run_buildM R S w
 unfold execOp
 simp only[ho,List.map_toArray,List.map_cons,List.map_nil,hx,hy,Sem.run_bind,h,Result.andThen_ok,Sem.run_pure]
theorem act_boxM {o:Oper} {a:Act} {w:World} {K:Act→World→Prop} {Q:Exit→Act→World→Prop} {x:Operand} {cs:Array Value} (ho:o.op=.box 251 x) (hx:a.eval x=.agg cs)
  (h:∀ w',w'.heap[w.heap.size]?=some (.cells cs 251 (0,0))→Below w.heap.size w w'→K (a.put o.dst (.pointer (some ⟨w.heap.size,0,none⟩))) w'):o.wp Tryz.prog a w K Q:=by
 unfold Oper.wp execOp
 simp only[ho,hx]
 simp[go_sem]
 exact h _ (heap_alloc_new w _) ((Below.refl _ _).alloc (Nat.le_refl _) _)
theorem st_new {key:Nat→Int} (hk:Byts 32 key) (f:Nat→Int):St key f 0 (rL key) (sL key) (fun _=>0) (fun _=>0):=by
 have b0:=dval8_b (s:=rdig key) (fun i hi=>rdig_b hk i (by omega))
 have b8:=dval8_b (s:=fun j=>rdig key (8+j)) (fun i hi=>rdig_b hk (8+i) (by omega))
 have h16:=dval8_b (s:=fun j=>key (16+j)) (fun i hi=>hk (16+i) (by omega))
 have h24:=dval8_b (s:=fun j=>key (24+j)) (fun i hi=>hk (24+i) (by omega))
 refine ⟨lofs_dg b0 b8 (by omega),?_,h16,h24,?_,⟨fun _ _=>Int.le_refl _,fun _ _ _=>by show (0:Int)<_;decide,by show (0:Int)<_;decide⟩,?_,fun _ _=>by show 0≤(0:Int)∧(0:Int)<256;omega,fun j hj=>by omega⟩
 ·have h:=dval_shift (rdig key) 8 8
  unfold rL
  rw[lofs_num]
  unfold rN
  rw[show (16:Nat)=8+8 from rfl,h]
  simp only[Int.reducePow]
  omega
 ·have h:=dval_shift (fun i=>key (16+i)) 8 8
  unfold sN
  rw[show dval (fun i=>key (16+i)) 16=dval (fun i=>key (16+i)) (8+8) from rfl,h]
  show dval (fun j=>key (16+j)) 8+18446744073709551616*dval (fun j=>key (24+j)) 8=_
  rw[dval_congr (s:=fun j=>key (16+(8+j))) (t:=fun j=>key (24+j)) (fun j _=>by show key (16+(8+j))=key (24+j);congr 1;omega)]
  simp only[Int.reducePow]
 ·simp[qv,accN]
theorem New_run (key f:Nat→Int) (w:World) (hk:Byts 32 key) :
  Calls Tryz.prog 209 #[.agg (WA .u8 32 key)] w fun e w'=>∃ b,w.heap.size≤b∧e=.returned (.pointer (some ⟨b,0,none⟩))∧MacN w' b key f 0∧Below w.heap.size w w':=by
 have g0:ArrAt (w.alloc (.cells (WA .u8 32 key) 22)) w.heap.size .u8 22 32 key:=heap_alloc_new w _
 have hB:Below w.heap.size w (w.alloc (.cells (WA .u8 32 key) 22)):=(Below.refl _ w).alloc (Nat.le_refl _) _
 have HL:=Hid.mk (low_r hk)
 have HH:=Hid.mk (high_r hk)
 have HK0:Hid (Byts 8 key):=Hid.mk (fun i hi=>hk i (by omega))
 have HK8:Hid (Byts 8 (fun j=>key (8+j))):=Hid.mk (fun i hi=>hk (8+i) (by omega))
 have HK16:Hid (Byts 8 (fun j=>key (16+j))):=Hid.mk (fun i hi=>hk (16+i) (by omega))
 have HK24:Hid (Byts 8 (fun j=>key (24+j))):=Hid.mk (fun i hi=>hk (24+i) (by omega))
 have HR0:=Hid.mk (dval8_b (s:=rdig key) (fun i hi=>rdig_b hk i (by omega)))
 have HR8:=Hid.mk (dval8_b (s:=fun j=>rdig key (8+j)) (fun i hi=>rdig_b hk (8+i) (by omega)))
 have HS:=Hid.mk (st_new hk f)
 go_enter Tryz.func209,Tryz.ntmps209
 go_wp2_with fail
 refine wp_region_steps (fun v=>ArrAt v w.heap.size .u8 22 32 key∧Below w.heap.size w v) (fun v v'=>Below v.heap.size v v') (knM [some (.slice (some ⟨w.heap.size,0,none⟩) 8 32),some (.int .u64 (dval (key) 8)),some (.int .u64 (dval (rdig key) 8)),some (.slice (some ⟨w.heap.size,8,none⟩) 8 24),some (.int .u64 (dval (fun j=>key (8+j)) 8)),some (.int .u64 (dval (fun j=>rdig key (8+j)) 8)),some (.agg (WA .u64 5 (rL key))),some (.slice (some ⟨w.heap.size,16,none⟩) 8 16),some (.int .u64 (dval (fun j=>key (16+j)) 8)),some (.slice (some ⟨w.heap.size,24,none⟩) 8 8),some (.int .u64 (dval (fun j=>key (24+j)) 8)),some (.agg (WA .u64 2 (sL key))),some (.agg (macC (rL key) (sL key) (fun _=>0) (fun _=>0) 0)),none,none] (fun v u=>∃ b,w.heap.size≤b∧v=.pointer (some ⟨b,0,none⟩)∧MacAt u b (rL key) (sL key) (fun _=>0) (fun _=>0) 0)) [3,4,5,6,7,8,9,10,11,12,13,14,15,16,2]
  [(1,.pointer (some ⟨w.heap.size,0,none⟩))] [[],[0],[1],[],[3],[4],[2,5],[],[7],[],[9],[8,10],[6,11],[12],[13]] rfl (by kernel_rfl) ⟨rfl,trivial⟩ ⟨g0.drew,Below.drew hB⟩ (fun v v' h hb=>⟨h.1.kept hb,h.2.trans (hb.mono h.2.size)⟩) (knM_keeps (fun v u u' ⟨b,h1,h2,h3⟩ hb=>⟨b,h1,h2,h3.kept hb⟩))
  ⟨
   (fun Q a1 ww hS fr kn=>⟨trivial,fun K hK=>wp_value (exec_slH rfl fr.1 rfl (sl32a _ _)) (hK _ _ rfl (Below.refl _ _))⟩),
   (fun Q a1 ww hS fr kn=>⟨trivial,fun K hK=>stepc enterWord rfl (args1 kn.1) (pword_run w.heap.size 0 32 (key) ww HK0.out (fun j hj=>by rw[Nat.zero_add];exact hS.1.cell j (by omega))) (fun w' hb=>hK _ _ rfl hb)⟩),
   (fun Q a1 ww hS fr kn=>⟨trivial,fun K hK=>wp_value (exec_and64 rfl kn.1 rfl) (hK _ _ (congrArg (Value.int .u64) HL.out) (Below.refl _ _))⟩),
   (fun Q a1 ww hS fr kn=>⟨trivial,fun K hK=>wp_value (exec_slLH rfl fr.1 rfl rfl (sl32b _ _)) (hK _ _ rfl (Below.refl _ _))⟩),
   (fun Q a1 ww hS fr kn=>⟨trivial,fun K hK=>stepc enterWord rfl (args1 kn.1) (pword_run w.heap.size 8 24 (fun j=>key (8+j)) ww HK8.out (fun j hj=>hS.1.cell (8+j) (by omega))) (fun w' hb=>hK _ _ rfl hb)⟩),
   (fun Q a1 ww hS fr kn=>⟨trivial,fun K hK=>wp_value (exec_and64 rfl kn.1 rfl) (hK _ _ (congrArg (Value.int .u64) HH.out) (Below.refl _ _))⟩),
   (fun Q a1 ww hS fr kn=>⟨trivial,fun K hK=>stepc enterLimbs rfl (args3 kn.1 kn.2.1 rfl) (limbsOf_run _ _ 0 ww HR0.out HR8.out (by omega)) (fun w' hb=>hK _ _ rfl hb)⟩),
   (fun Q a1 ww hS fr kn=>⟨trivial,fun K hK=>wp_value (exec_slLH rfl fr.1 rfl rfl (sl32c _ _)) (hK _ _ rfl (Below.refl _ _))⟩),
   (fun Q a1 ww hS fr kn=>⟨trivial,fun K hK=>stepc enterWord rfl (args1 kn.1) (pword_run w.heap.size 16 16 (fun j=>key (16+j)) ww HK16.out (fun j hj=>hS.1.cell (16+j) (by omega))) (fun w' hb=>hK _ _ rfl hb)⟩),
   (fun Q a1 ww hS fr kn=>⟨trivial,fun K hK=>wp_value (exec_slL rfl fr.1 rfl (sl32d _ _)) (hK _ _ rfl (Below.refl _ _))⟩),
   (fun Q a1 ww hS fr kn=>⟨trivial,fun K hK=>stepc enterWord rfl (args1 kn.1) (pword_run w.heap.size 24 8 (fun j=>key (24+j)) ww HK24.out (fun j hj=>hS.1.cell (24+j) (by omega))) (fun w' hb=>hK _ _ rfl hb)⟩),
   (fun Q a1 ww hS fr kn=>⟨trivial,fun K hK=>wp_value (exec_build2 rfl kn.1 kn.2.1) (hK _ _ rfl (Below.refl _ _))⟩),
   (fun Q a1 ww hS fr kn=>⟨trivial,fun K hK=>wp_value (exec_buildM rfl kn.1 kn.2.1) (hK _ _ rfl (Below.refl _ _))⟩),
   (fun Q a1 ww hS fr kn=>⟨trivial,fun K hK=>act_boxM rfl kn.1 (fun w' hg hb=>hK _ _ ⟨_,hS.2.size,rfl,hg⟩ hb)⟩),
   (fun Q a1 ww hS fr kn=>⟨trivial,fun K hK=>wp_value (exec_assign rfl rfl) (hK _ _ kn.1 (Below.refl _ _))⟩),
   trivial⟩ ?_
 intro vs v1 hS1 hk1
 obtain ⟨b,h1,h2,h3⟩:=hk1 14 (by decide)
 change vs 2=_ at h2
 simp only[putAll,Act.put,List.setIfInBounds_toArray,List.set_cons_zero,List.set_cons_succ,h2]
 clear hk1 h2
 go_wp2_with fail
 go_ret
 exact ⟨b,h1,rfl,⟨_,_,_,_,h3,HS.out⟩,hS1.2⟩
theorem Write_run (b:Nat) (key f:Nat→Int) (n0:Nat) (v:Value) (cnt:Nat) (ts:Nat→ByteArray) (w:World) (hM:MacN w b key f n0) (hv:∀ w',Touch (fun x=>x=b) w w'→Strs w' v cnt ts) (hn:cnt<4611686018427387904) :
  Calls Tryz.prog 210 #[.pointer (some ⟨b,0,none⟩),v] w fun e w'=>e=.returned (.tuple #[])∧MacN w' b key (cat n0 f (txt (joinB ts cnt))) (n0+(joinB ts cnt).size)∧Touch (fun x=>x=b) w w':=by
 obtain ⟨a,c,rfl,hp⟩:=hv w (Touch.refl _ _)
 have HV:=Hid.mk hv
 clear hv hp
 go_enter Tryz.func210,Tryz.ntmps210
 go_wp2_with fail
 go_loopg [10] cnt (fun gm iv v=>∃ i:Nat,Hid (gm+i=cnt)∧iv=.int .i64 (i:Int)∧MacN v b key (cat n0 f (txt (joinB ts i))) (n0+(joinB ts i).size)∧Touch (fun x=>x=b) w v)
 case atStart=>exact ⟨0,Hid.mk rfl,rfl,hM.congr (fun i hi=>by unfold cat;rw[if_pos hi]),Touch.refl _ _⟩
 case round =>
  clear hM
  obtain ⟨i,HI,rfl,hM,ht⟩:=hrel
  have hin:i≤cnt:=by have:=HI.out;omega
  by_cases hil:i<cnt
  ·obtain ⟨a',c',e,hp⟩:=HV.out wr ht
   simp only[Value.slice.injEq] at e
   obtain ⟨rfl,_,rfl⟩:=e
   obtain ⟨p,rfl,hc⟩:=hp (by omega)
   have hc1:=hc i hil
   clear hc hp
   go_wp2_with fail
   refine (add_run b key _ _ (ts i) wr hM).mono ?_
   rintro e v1 ⟨rfl,hM1,ht1⟩
   rw[cat_join,Nat.add_assoc,← ByteArray.size_append] at hM1
   go_wp2_with fail
   go_roundg (cnt-(i+1))
   case rel=>exact ⟨i+1,Hid.mk (by omega),by go_num,hM1,ht.trans ht1⟩
   case measure=>have:=HI.out;omega
  ·have hi2:i=cnt:=by omega
   subst hi2
   go_wp2_with fail
   go_end0
   exact ⟨rfl,hM,ht⟩
theorem Sum_run (b:Nat) (key f:Nat→Int) (n:Nat) (w:World) (hM:MacN w b key f n) :
  Calls Tryz.prog 211 #[.pointer (some ⟨b,0,none⟩)] w fun e w'=>e=.returned (.agg (WA .u8 16 (digN (markN key f n))))∧Below w.heap.size w w':=by
 obtain ⟨R,S,Z,H,gm,hst⟩:=hM
 have hlt:=gm.lt
 obtain ⟨h,hh⟩:∃ h,n%16=h:=⟨_,rfl⟩
 rw[hh] at gm
 have HM:Hid (∀ v,Below w.heap.size w v→MacAt v b R S Z H (h:Int)):=Hid.mk (fun v hv=>gm.below hv hlt)
 have HST:=Hid.mk hst
 have HH:Hid (h≤16):=Hid.mk (by omega)
 have gma:=gm.alloc (.cells (WA .u8 16 fun _=>0) 54)
 have hsum:=gma.sum
 have g0:ArrAt ((w.alloc (.cells (WA .u8 16 fun _=>0) 54)).alloc (.cells (WA .u64 5 fun _=>0) 247)) w.heap.size .u8 54 16 (fun _=>0):=heap_alloc2_old w _ _
 have gz:ArrAt ((w.alloc (.cells (WA .u8 16 fun _=>0) 54)).alloc (.cells (WA .u64 5 fun _=>0) 247)) (w.heap.size+1) .u64 247 5 (fun _=>0):=heap_alloc2_new w _ _
 have hB:Below w.heap.size w ((w.alloc (.cells (WA .u8 16 fun _=>0) 54)).alloc (.cells (WA .u64 5 fun _=>0) 247)):=((Below.refl _ w).alloc (by simp) _).alloc (by simp) _
 clear hst gm
 go_enter Tryz.func211,Tryz.ntmps211
 go_wp2_with (first|(refine wl_value rfl (exec_ldmid rfl isL (by rfl) hsum) ?_)|(refine st_arr isL gz (by rfl) (by rfl) ?_;intro v1 g3 o1;refine Hid.out ?_))
 replace g0:=g0.only o1 (by omega)
 replace hB:=hB.trans (o1.below (by omega))
 clear o1 gz hsum gma
 have hch:=(HM.out _ hB).held
 by_cases hp:0<h
 ·have hpi:(0:Int)<(h:Int):=by omega
  refine Hid.mk ?_
  go_wp2_with fail
  refine wp_gen (fun v=>ArrAt v w.heap.size .u8 54 16 (fun _=>0)∧ArrAt v (w.heap.size+1) .u64 247 5 Z∧Below w.heap.size w v) ⟨g0,g3,hB⟩ ?_
  clear g0 g3 hB hch
  rintro v2 ⟨g0,g3,hB⟩
  refine wp_region3 (Below w.heap.size w) v2.heap.size
    [((w.heap.size+1),⟨isOb (WA .u64 5 Z) 247,[(10,fun ob=>∃ z,Sm z∧(∃ q,(qv Z 5+(dval H h+256 ^ h))*qv R 5=qv z 5+P130*q)∧ob=.cells (WA .u64 5 z) 247 (0,0))]⟩),(w.heap.size,fixd (WA .u8 16 (fun _=>0)) 54)]
    [kv (.pointer (some ⟨b,0,none⟩)),kv (.pointer (some ⟨b,0,none⟩)),kv (.pointer (some ⟨b,0,none⟩)),kv (.pointer (some ⟨b,12,none⟩)),kv (.pointer (some ⟨b,0,none⟩)),kv (.pointer (some ⟨b,0,none⟩)),kv (.pointer (some ⟨b,28,none⟩)),kv (.int .i64 (h:Int)),kv (.slice (some ⟨b,12,none⟩) h 16),.val fun v=>∃ z,Sm z∧(∃ q,(qv Z 5+(dval H h+256 ^ h))*qv R 5=qv z 5+P130*q)∧v=.agg (WA .u64 5 z),.val fun _=>True]
    [.none,.none,.none,.none,.none,.none,.none,.none,.none,.none,.base 0 1]
    [some 16,some 17,some 18,some 19,some 20,some 21,some 22,some 23,some 24,some 25,none]
    [(0,.pointer (some ⟨b,0,none⟩)),(3,.pointer (some ⟨(w.heap.size+1),0,none⟩))]
    [[],[],[.slot 1],[.slot 2],[],[.slot 4],[.slot 5],[.slot 6],[.slot 3,.slot 7],[.slot 0,.slot 8],[.base 0 0,.slot 9]]
    [.base 0 1,.base 1 0] [16,17,18,19,20,21,22,23,24,25]
    rfl (by kernel_rfl) ⟨rfl,rfl,trivial⟩ (Below.drew hB) (Nat.le_refl _) ⟨⟨g3.lt,obIn g3⟩,⟨g0.lt,obIn g0⟩,trivial⟩ ⟨⟨(show ((w.heap.size+1):Nat)≠w.heap.size from by omega),trivial⟩,trivial,trivial⟩ (below_G hB.size ⟨by omega,by omega,trivial⟩)
    ⟨
     (fun _ _ _ _ _ _ fr _=>sV (exec_move rfl fr.1)),
     (fun _ _ _ _ _ _ fr _=>sV (exec_move rfl fr.1)),
     (fun _ _ _ _ _ _ _ kn=>sV (exec_nilc rfl kn.1)),
     (fun _ _ _ _ _ _ _ kn=>sV (exec_fm (k:=3) rfl kn.1 (by decide))),
     (fun _ _ _ _ _ _ fr _=>sV (exec_move rfl fr.1)),
     (fun _ _ _ _ _ _ _ kn=>sV (exec_nilc rfl kn.1)),
     (fun _ _ _ _ _ _ _ kn=>sV (exec_fm (k:=4) rfl kn.1 (by decide))),
     (fun _ _ ww _ hS _ _ kn=>sV (exec_ld rfl kn.1 (load_int (HM.out ww hS).held))),
     (fun _ _ _ _ _ _ _ kn=>sV (exec_slH rfl kn.1 kn.2.1 (sl16h b h _ HH.out))),
     (fun _ _ ww _ hS _ _ kn=>.inl ⟨trivial,fun K hK=>stepp enterBehind rfl (args2 kn.1 kn.2.1) ((behind_run b h 16 R S Z H (h:Int) ww (HM.out ww hS) HST.out.zs HST.out.rd HST.out.hb HH.out).mono (fun e w' ⟨z,h1,h2,h3,h4⟩=>⟨_,h3,⟨z,h1,h2,rfl⟩,h4⟩)) (R:=fun v w'=>(∃ z,Sm z∧(∃ q,(qv Z 5+(dval H h+256 ^ h))*qv R 5=qv z 5+P130*q)∧v=.agg (WA .u64 5 z))∧Below ww.heap.size ww w') (fun v w' ⟨h1,h2⟩=>hK _ _ ⟨touch_below h2,h1⟩)⟩),
     (fun _ _ _ _ _ _ fr kn=>.inl ⟨trivial,fun K hK=>(by obtain ⟨z,h1,h2,h3⟩:=kn.2.1;exact act_arr rfl isL fr.2.1 h3 (obAt kn.1) (fun w2 hg ho=>hK _ _ ⟨⟨touch_only ho,⟨_,hg,z,h1,h2,rfl⟩⟩,trivial⟩))⟩),
     trivial⟩ ?_
  intro vs own v3 hB3 hs3 kn inj
  clear inj hs3 g0 g3 hB
  obtain ⟨ob,hob,z,h1,⟨q,hq⟩,rfl⟩:=kn.1
  have g3:ArrAt v3 (w.heap.size+1) .u64 247 5 z:=hob
  have g0:ArrAt v3 w.heap.size .u8 54 16 (fun _=>0):=obAt kn.2.1
  clear kn
  have hB:=hB3
  have HZ:=Hid.mk h1
  have HQ:Hid ((qv z 5%P130+(S 0+18446744073709551616*S 1))%340282366920938463463374607431768211456=markN key f n):=Hid.mk (HST.out.left (by omega) (q:=q) (by rw[hh];exact hq))
  clear h1 hq hB3
  simp only[putAll,Act.put,List.setIfInBounds_toArray,List.set_cons_zero,List.set_cons_succ]
  go_wp2_with fail
  refine wp_region3 (Below w.heap.size w) v3.heap.size
   [((w.heap.size+1),fixd (WA .u64 5 z) 247),(w.heap.size,once (WA .u8 16 (fun _=>0)) 54 6 (WA .u8 16 (digN ((qv z 5%P130+(S 0+18446744073709551616*S 1))%340282366920938463463374607431768211456))))]
   [kv (.agg (WA .u64 5 z)),kv (.pointer (some ⟨b,0,none⟩)),kv (.pointer (some ⟨b,0,none⟩)),kv (.pointer (some ⟨b,5,none⟩)),kv (.agg (WA .u64 2 S)),kv (.agg (WA .u8 16 (digN ((qv z 5%P130+(S 0+18446744073709551616*S 1))%340282366920938463463374607431768211456)))),.val fun _=>True]
   [.none,.none,.none,.none,.none,.none,.base 1 1]
   [some 26,some 27,some 28,some 29,some 30,some 31,none]
   [(0,.pointer (some ⟨b,0,none⟩)),(3,.pointer (some ⟨(w.heap.size+1),0,none⟩)),(2,.pointer (some ⟨w.heap.size,0,none⟩))]
   [[.base 0 0],[],[.slot 1],[.slot 2],[.slot 3],[.slot 0,.slot 4],[.base 1 0,.slot 5]]
   [.base 1 1] [26,27,28,29,30,31]
   rfl (by kernel_rfl) ⟨rfl,rfl,rfl,trivial⟩ (Below.drew hB) (Nat.le_refl _) ⟨⟨g3.lt,obIn g3⟩,⟨g0.lt,obIn g0⟩,trivial⟩ ⟨⟨(show ((w.heap.size+1):Nat)≠w.heap.size from by omega),trivial⟩,trivial,trivial⟩ (below_G hB.size ⟨by omega,by omega,trivial⟩)
   ⟨
    (fun _ _ _ _ _ _ fr kn=>sV (look_arr rfl isL (obAt kn.1) fr.2.1)),
    (fun _ _ _ _ _ _ fr _=>sV (exec_move rfl fr.1)),
    (fun _ _ _ _ _ _ _ kn=>sV (exec_nilc rfl kn.1)),
    (fun _ _ _ _ _ _ _ kn=>sV (exec_fm (k:=1) rfl kn.1 (by decide))),
    (fun _ _ ww _ hS _ _ kn=>sV (exec_ldmid rfl isS2 kn.1 (HM.out ww hS).s)),
    (fun _ _ ww _ _ _ _ kn=>.inl ⟨trivial,fun K hK=>stepc enterMark rfl (args2 kn.1 kn.2.1) (pmark_run z S ww HZ.out HST.out.s0 HST.out.s1) (fun w' hb=>hK _ _ ⟨touch_below hb,rfl⟩)⟩),
    (fun _ _ _ _ _ _ fr kn=>.inl ⟨trivial,fun K hK=>act_arr rfl isArr16 fr.2.2.1 kn.2.1 (obAt kn.1) (fun w2 hg ho=>hK _ _ ⟨⟨touch_only ho,obIn hg⟩,trivial⟩)⟩),
    trivial⟩ ?_
  intro vs own v9 hB9 hs9 kn inj
  clear inj hs9 g0 g3 hB
  have g0:ArrAt v9 w.heap.size .u8 54 16 (digN ((qv z 5%P130+(S 0+18446744073709551616*S 1))%340282366920938463463374607431768211456)):=obAt kn.1
  clear kn
  simp only[putAll,Act.put,List.setIfInBounds_toArray,List.set_cons_zero,List.set_cons_succ]
  rw[HQ.out] at g0
  go_wp2_with fail
  exact bodyPost_ret (res_arr Tryz.results211 isArr16 g0 (by rfl)) rfl ⟨rfl,hB9⟩
 ·have hpi:¬ ((0:Int)<(h:Int)):=by omega
  have hpd:decide ((0:Int)<(h:Int))=false:=decide_eq_false hpi
  have HZ:=Hid.mk HST.out.zs
  have HQ:=Hid.mk (HST.out.none (by omega))
  refine Hid.mk ?_
  go_wp2_with fail
  refine wp_gen (fun v=>ArrAt v w.heap.size .u8 54 16 (fun _=>0)∧ArrAt v (w.heap.size+1) .u64 247 5 Z∧Below w.heap.size w v) ⟨g0,g3,hB⟩ ?_
  clear g0 g3 hB hch
  rintro v3 ⟨g0,g3,hB⟩
  refine wp_region3 (Below w.heap.size w) v3.heap.size
   [((w.heap.size+1),fixd (WA .u64 5 Z) 247),(w.heap.size,once (WA .u8 16 (fun _=>0)) 54 6 (WA .u8 16 (digN ((qv Z 5%P130+(S 0+18446744073709551616*S 1))%340282366920938463463374607431768211456))))]
   [kv (.agg (WA .u64 5 Z)),kv (.pointer (some ⟨b,0,none⟩)),kv (.pointer (some ⟨b,0,none⟩)),kv (.pointer (some ⟨b,5,none⟩)),kv (.agg (WA .u64 2 S)),kv (.agg (WA .u8 16 (digN ((qv Z 5%P130+(S 0+18446744073709551616*S 1))%340282366920938463463374607431768211456)))),.val fun _=>True]
   [.none,.none,.none,.none,.none,.none,.base 1 1]
   [some 26,some 27,some 28,some 29,some 30,some 31,none]
   [(0,.pointer (some ⟨b,0,none⟩)),(3,.pointer (some ⟨(w.heap.size+1),0,none⟩)),(2,.pointer (some ⟨w.heap.size,0,none⟩))]
   [[.base 0 0],[],[.slot 1],[.slot 2],[.slot 3],[.slot 0,.slot 4],[.base 1 0,.slot 5]]
   [.base 1 1] [26,27,28,29,30,31]
   rfl (by kernel_rfl) ⟨rfl,rfl,rfl,trivial⟩ (Below.drew hB) (Nat.le_refl _) ⟨⟨g3.lt,obIn g3⟩,⟨g0.lt,obIn g0⟩,trivial⟩ ⟨⟨(show ((w.heap.size+1):Nat)≠w.heap.size from by omega),trivial⟩,trivial,trivial⟩ (below_G hB.size ⟨by omega,by omega,trivial⟩)
   ⟨
    (fun _ _ _ _ _ _ fr kn=>sV (look_arr rfl isL (obAt kn.1) fr.2.1)),
    (fun _ _ _ _ _ _ fr _=>sV (exec_move rfl fr.1)),
    (fun _ _ _ _ _ _ _ kn=>sV (exec_nilc rfl kn.1)),
    (fun _ _ _ _ _ _ _ kn=>sV (exec_fm (k:=1) rfl kn.1 (by decide))),
    (fun _ _ ww _ hS _ _ kn=>sV (exec_ldmid rfl isS2 kn.1 (HM.out ww hS).s)),
    (fun _ _ ww _ _ _ _ kn=>.inl ⟨trivial,fun K hK=>stepc enterMark rfl (args2 kn.1 kn.2.1) (pmark_run Z S ww HZ.out HST.out.s0 HST.out.s1) (fun w' hb=>hK _ _ ⟨touch_below hb,rfl⟩)⟩),
    (fun _ _ _ _ _ _ fr kn=>.inl ⟨trivial,fun K hK=>act_arr rfl isArr16 fr.2.2.1 kn.2.1 (obAt kn.1) (fun w2 hg ho=>hK _ _ ⟨⟨touch_only ho,obIn hg⟩,trivial⟩)⟩),
    trivial⟩ ?_
  intro vs own v9 hB9 hs9 kn inj
  clear inj hs9 g0 g3 hB
  have g0:ArrAt v9 w.heap.size .u8 54 16 (digN ((qv Z 5%P130+(S 0+18446744073709551616*S 1))%340282366920938463463374607431768211456)):=obAt kn.1
  clear kn
  simp only[putAll,Act.put,List.setIfInBounds_toArray,List.set_cons_zero,List.set_cons_succ]
  rw[HQ.out] at g0
  go_wp2_with fail
  exact bodyPost_ret (res_arr Tryz.results211 isArr16 g0 (by rfl)) rfl ⟨rfl,hB9⟩
theorem Tag_run (key:Nat→Int) (v:Value) (cnt:Nat) (ts:Nat→ByteArray) (w:World) (hk:Byts 32 key) (hv:Strs w v cnt ts) (hn:cnt<4611686018427387904) :
  Calls Tryz.prog 188 #[.agg (WA .u8 32 key),v] w fun e w'=>e=.returned (.agg (WA .u8 16 (digN (markN key (txt (joinB ts cnt)) (joinB ts cnt).size))))∧Below w.heap.size w w':=by
 have g0:ArrAt ((w.alloc (.cells (WA .u8 32 key) 22)).alloc (.cells (WA .u8 16 fun _=>0) 54)) w.heap.size .u8 22 32 key:=heap_alloc2_old w _ _
 have g1:ArrAt ((w.alloc (.cells (WA .u8 32 key) 22)).alloc (.cells (WA .u8 16 fun _=>0) 54)) (w.heap.size+1) .u8 54 16 (fun _=>0):=heap_alloc2_new w _ _
 have hB:Below w.heap.size w ((w.alloc (.cells (WA .u8 32 key) 22)).alloc (.cells (WA .u8 16 fun _=>0) 54)):=((Below.refl _ w).alloc (by simp) _).alloc (by simp) _
 go_enter Tryz.func188,Tryz.ntmps188
 go_wp2_with (refine ld_arr isArr32 g0 (by rfl) ?_)
 refine (New_run key (fun _=>0) _ hk).mono ?_
 rintro e v1 ⟨b,hb,rfl,hM,hb1⟩
 have hz1:=g1.lt
 replace g1:=g1.kept hb1
 replace hB:=hB.trans (hb1.mono hB.size)
 have hzb:w.heap.size+1+1≤b:=by simpa using hb
 have hv1:∀ w',Touch (fun x=>x=b) v1 w'→Strs w' v cnt ts:=fun w' ht=>hv.kept (fun k hk=>(ht.block k (by have:=hB.size;omega) (by omega)).trans (hB.block k hk))
 clear hb1 g0 hb hz1
 go_wp2_with fail
 refine (Write_run b key (fun _=>0) 0 v cnt ts v1 hM hv1 hn).mono ?_
 rintro e v2 ⟨rfl,hM2,ht2⟩
 rw[cat0,Nat.zero_add] at hM2
 replace g1:=g1.touch ht2 (by omega)
 replace hB:=belowT hB ht2 (by omega) (Nat.le_refl _)
 clear ht2 hM hv1
 go_wp2_with fail
 refine (Sum_run b key _ _ v2 hM2).mono ?_
 rintro e v3 ⟨rfl,hb3⟩
 replace g1:=g1.kept hb3
 replace hB:=hB.trans (hb3.mono hB.size)
 clear hb3 hM2
 go_wp2_with (refine st_arr isArr16 g1 (by rfl) (by rfl) ?_;intro v4 g4 o4;refine Hid.out ?_)
 refine Hid.mk ?_
 go_wp2_with fail
 exact bodyPost_ret (res_arr Tryz.results188 isArr16 g4 (by rfl)) rfl ⟨rfl,hB.trans (o4.below (by omega))⟩
-- awake
theorem isArr8:IsArr 177 8:=⟨_,_,Tryz.underlying177,by kernel_rfl⟩
theorem div_pow (n:Int) (i:Nat):n/256 ^ i/256=n/256 ^ (i+1):=by
 rw[Int.pow_succ,Int.ediv_ediv_of_nonneg (Int.le_of_lt (p256 i))]
theorem reight_run (n:Int) (w:World) (hn:0≤n∧n<18446744073709551616) :
  Calls Tryz.prog 130 #[.int .u64 n] w fun e w'=>e=.returned (.string (mkS 8 (digN n)))∧Below w.heap.size w w':=by
 have g0:ArrAt (w.alloc (.cells (WA .u8 8 fun _=>0) 177)) w.heap.size .u8 177 8 (fun _=>0):=heap_alloc_new w _
 have hB:Below w.heap.size w (w.alloc (.cells (WA .u8 8 fun _=>0) 177)):=(Below.refl _ w).alloc (Nat.le_refl _) _
 go_enter Tryz.func130,Tryz.ntmps130
 go_wp2_with fail
 go_loopg [0,4] 8 (fun gm nv iv v=>∃ i:Nat,Hid (gm+i=8)∧iv=.int .i64 (i:Int)∧nv=.int .u64 (n/256 ^ i)∧ArrAt v w.heap.size .u8 177 8 (fun j=>if j<i then digN n j else 0)∧Below w.heap.size w v)
 case atStart=>exact ⟨0,Hid.mk rfl,rfl,by simp,g0.congr (fun j _=>by rw[if_neg (by omega)]),hB⟩
 case round =>
  clear g0 hB
  obtain ⟨i,HI,rfl,rfl,g0,hB⟩:=hrel
  have hi8:i≤8:=by have:=HI.out;omega
  have hq0:0≤n/256 ^ i:=Int.ediv_nonneg hn.1 (Int.le_of_lt (p256 i))
  have hq1:n/256 ^ i<18446744073709551616:=Int.lt_of_le_of_lt (Int.ediv_le_self _ hn.1) hn.2
  by_cases hil:i<8
  ·have c0:=g0.cell i hil
   have f0:=g0.free i
   have g2:=Hid.mk ((g0.set i (n/256 ^ i%256) hil).congr (s':=fun j=>if j<i+1 then digN n j else 0) (fun j _=>by
    unfold upd
    by_cases e:j=i
    ·subst e;rw[if_pos rfl,if_pos (by omega)];rfl
    ·rw[if_neg e]
     show (if j<i then digN n j else 0)=_
     by_cases h:j<i
     ·rw[if_pos h,if_pos (by omega)]
     ·rw[if_neg h,if_neg (by omega)]))
   have HD:=Hid.mk (div_pow n i)
   generalize n/256 ^ i=q at *
   go_wp2_with fail
   go_roundg (8-(i+1))
   case rel=>exact ⟨i+1,Hid.mk (by omega),by go_num,by rw[← HD.out],g2.out,Below.setCell (p:=⟨w.heap.size,i,none⟩) hB (by simp) _⟩
   case measure=>have:=HI.out;omega
  ·have hi2:i=8:=by omega
   subst hi2
   replace g0:=g0.congr (s':=digN n) (fun j hj=>by rw[if_pos hj])
   have hcv:=str_back 8 w.heap.size 8 wr 8 (digN n) g0.row (fun j _=>digN_b n j) rfl
   clear hq0 hq1
   go_wp2_with fail
   go_ret
   exact ⟨rfl,hB⟩
def padZ (s:ByteArray):ByteArray:=s++mkS ((16-s.size%16)%16) (fun _=>0)
theorem rwhole_run (s:ByteArray) (w:World) (hs:s.size≤1152921504606846976) :
  Calls Tryz.prog 163 #[.string s] w fun e w'=>e=.returned (.string (padZ s))∧Below w.heap.size w w':=by
 obtain ⟨k,hk⟩:∃ k,(16-s.size%16)%16=k:=⟨_,rfl⟩
 have hm:=run_make_row' (P:=Tryz.prog) 81 5 (.int .u8 0) 1 Tryz.underlying81 infoByte rfl .i64 .i64 k (by omega) (by omega) w
 rw[made_WA] at hm
 have h3:-((s.size:Int)%16)%16=(k:Int):=by omega
 have hcat:(s.size:Int)+((mkS k fun _=>0).size:Int)≤9223372036854775807:=by rw[mkS_size];omega
 have hcat2:s.size+(mkS k fun _=>0).size≤9223372036854775807:=by omega
 have hE:s++mkS k (fun _=>0)=padZ s:=by unfold padZ;rw[hk]
 have HE:=Hid.mk hE
 have h1:(s.size:Int).tmod 16=((s.size%16:Nat):Int):=by rw[Int.tmod_eq_emod_of_nonneg (by omega)];omega
 have h2:(16-((s.size%16:Nat):Int)).tmod 16=((k:Nat):Int):=by rw[Int.tmod_eq_emod_of_nonneg (by omega)];omega
 have g0:ArrAt (w.alloc (.cells (WA .u8 k fun _=>0) 5)) w.heap.size .u8 5 k (fun _=>0):=heap_alloc_new w _
 have hcv:=str_back k w.heap.size k _ k (fun _=>0) g0.row (fun j _=>by omega) rfl
 go_enter Tryz.func163,Tryz.ntmps163
 have hB:Below w.heap.size w (w.alloc (.cells (WA .u8 k fun _=>0) 5)):=(Below.refl _ w).alloc (Nat.le_refl _) _
 clear h1 h2 hk hE
 generalize (mkS k fun _=>0)=z at *
 go_wp2_with fail
 rw[HE.out]
 go_ret
 exact ⟨rfl,hB⟩
theorem rot_run (x:Int) (n:Nat) (w:World) (hx:W32 x) (hn:n=7∨n=8∨n=12∨n=16) :
  Calls Tryz.prog 226 #[.int .u32 x,.int .i64 n] w fun e w'=>e=.returned (.int .u32 (rotw x n))∧w'=w:=by
 have key:∀ p q:Int,p=((2 ^ n:Nat):Int)→q=((2 ^ (32-n):Nat):Int)→bits .or .u32 (x*p%4294967296) (x/q)=rotw x n:=fun p q=>or_rotw x n hx p q
 unfold W32 at hx
 go_enter Tryz.func226,Tryz.ntmps226
 rcases hn with rfl | rfl | rfl | rfl
 ·have e1:bits .and .u64 7 31=7:=by decide
  have e2:=key 128 33554432 (by decide) (by decide)
  go_wp2
  go_ret
  exact ⟨rfl,rfl⟩
 ·have e1:bits .and .u64 8 31=8:=by decide
  have e2:=key 256 16777216 (by decide) (by decide)
  go_wp2
  go_ret
  exact ⟨rfl,rfl⟩
 ·have e1:bits .and .u64 12 31=12:=by decide
  have e2:=key 4096 1048576 (by decide) (by decide)
  go_wp2
  go_ret
  exact ⟨rfl,rfl⟩
 ·have e1:bits .and .u64 16 31=16:=by decide
  have e2:=key 65536 65536 (by decide) (by decide)
  go_wp2
  go_ret
  exact ⟨rfl,rfl⟩
theorem quarter_run (a b c d:Int) (w:World) (_ha:W32 a) (hb:W32 b) (_hc:W32 c) (hd:W32 d) :
  Calls Tryz.prog 216 #[.int .u32 a,.int .u32 b,.int .u32 c,.int .u32 d] w fun e w' =>
   e=.returned (.tuple #[.int .u32 (quart ⟨a,b,c,d⟩).a,.int .u32 (quart ⟨a,b,c,d⟩).b,.int .u32 (quart ⟨a,b,c,d⟩).c,.int .u32 (quart ⟨a,b,c,d⟩).d])∧w'=w:=by
 unfold quart half
 dsimp only
 obtain ⟨a1,h1⟩:∃ y,addw a b=y:=⟨_,rfl⟩
 rw[h1]
 have ha1:=h1▸addw_w a b
 obtain ⟨x1,g1⟩:∃ y,xorw d a1=y:=⟨_,rfl⟩
 rw[g1]
 have hx1:=g1▸xorw_w hd ha1
 rw[← xor_u32 hd ha1] at g1
 obtain ⟨d1,k1⟩:∃ y,rotw x1 16=y:=⟨_,rfl⟩
 rw[k1]
 have hd1:=k1▸rotw_w 16 hx1
 obtain ⟨c1,h2⟩:∃ y,addw c d1=y:=⟨_,rfl⟩
 rw[h2]
 have hc1:=h2▸addw_w c d1
 obtain ⟨x2,g2⟩:∃ y,xorw b c1=y:=⟨_,rfl⟩
 rw[g2]
 have hx2:=g2▸xorw_w hb hc1
 rw[← xor_u32 hb hc1] at g2
 obtain ⟨b1,k2⟩:∃ y,rotw x2 12=y:=⟨_,rfl⟩
 rw[k2]
 have hb1:=k2▸rotw_w 12 hx2
 obtain ⟨a2,h3⟩:∃ y,addw a1 b1=y:=⟨_,rfl⟩
 rw[h3]
 have ha2:=h3▸addw_w a1 b1
 obtain ⟨x3,g3⟩:∃ y,xorw d1 a2=y:=⟨_,rfl⟩
 rw[g3]
 have hx3:=g3▸xorw_w hd1 ha2
 rw[← xor_u32 hd1 ha2] at g3
 obtain ⟨d2,k3⟩:∃ y,rotw x3 8=y:=⟨_,rfl⟩
 rw[k3]
 have hd2:=k3▸rotw_w 8 hx3
 obtain ⟨c2,h4⟩:∃ y,addw c1 d2=y:=⟨_,rfl⟩
 rw[h4]
 have hc2:=h4▸addw_w c1 d2
 obtain ⟨x4,g4⟩:∃ y,xorw b1 c2=y:=⟨_,rfl⟩
 rw[g4]
 have hx4:=g4▸xorw_w hb1 hc2
 rw[← xor_u32 hb1 hc2] at g4
 obtain ⟨b2,k4⟩:∃ y,rotw x4 7=y:=⟨_,rfl⟩
 rw[k4]
 unfold addw at h1 h2 h3 h4
 have r1:Calls Tryz.prog 226 #[.int .u32 x1,.int .i64 16] w fun e w'=>e=.returned (.int .u32 (rotw x1 16))∧w'=w:=rot_run x1 16 w hx1 (by decide)
 have r2:Calls Tryz.prog 226 #[.int .u32 x2,.int .i64 12] w fun e w'=>e=.returned (.int .u32 (rotw x2 12))∧w'=w:=rot_run x2 12 w hx2 (by decide)
 have r3:Calls Tryz.prog 226 #[.int .u32 x3,.int .i64 8] w fun e w'=>e=.returned (.int .u32 (rotw x3 8))∧w'=w:=rot_run x3 8 w hx3 (by decide)
 have r4:Calls Tryz.prog 226 #[.int .u32 x4,.int .i64 7] w fun e w'=>e=.returned (.int .u32 (rotw x4 7))∧w'=w:=rot_run x4 7 w hx4 (by decide)
 rw[k1] at r1;rw[k2] at r2;rw[k3] at r3;rw[k4] at r4
 clear k1 k2 k3 k4
 unfold W32 at *
 go_enter Tryz.func216,Tryz.ntmps216
 go_wp2_with fail
 refine r1.mono ?_
 rintro e w1 ⟨rfl,rfl⟩
 go_wp2_with fail
 refine r2.mono ?_
 rintro e w2 ⟨rfl,rfl⟩
 go_wp2_with fail
 refine r3.mono ?_
 rintro e w3 ⟨rfl,rfl⟩
 go_wp2_with fail
 refine r4.mono ?_
 rintro e w4 ⟨rfl,rfl⟩
 go_wp2_with fail
 exact bodyPost_ret (v:=.tuple #[.int .u32 a2,.int .u32 b2,.int .u32 c2,.int .u32 d2]) (by simp[results,Tryz.results216,go_sem]) rfl ⟨rfl,rfl⟩
theorem exec_rem {a:Act} {o:Oper} {w:World} {x:Operand} (ho:o.op=.binOp .rem 3 x (.const (.int .i64 4294967296)) 3) {m:Int} (hx:a.eval x=.int .i64 m) (h0:0≤m) (_h1:m<9223372036854775808) :
  (execOp a.eval o).run Tryz.prog w=.ok (.value (.int .i64 (m%4294967296))) w :=
 exec_bin ho rfl hx rfl (by
  have e:Int.tmod m 4294967296=m%4294967296:=Int.tmod_eq_emod_of_nonneg h0
  simp[go_sem,e])
theorem or_rotw64 (x:Int) (n:Nat) (hx:W32 x) (p q:Int) (hp:p=((2 ^ n:Nat):Int)) (hq:q=((2 ^ (32-n):Nat):Int)):bits .or .i64 (x*p%4294967296) (x/q)=rotw x n:=by
 unfold W32 at hx
 obtain ⟨m,rfl⟩:=Int.eq_ofNat_of_zero_le hx.1
 subst hp;subst hq
 have e1:(m:Int)*((2 ^ n:Nat):Int)%4294967296=((m*2 ^ n%4294967296:Nat):Int):=by simp
 have e2:(m:Int)/((2 ^ (32-n):Nat):Int)=((m/2 ^ (32-n):Nat):Int):=by simp
 have h1:=Nat.mod_lt (m*2 ^ n) (show 4294967296 > 0 by decide)
 have h2:m/2 ^ (32-n)<4294967296:=Nat.lt_of_le_of_lt (Nat.div_le_self _ _) (by omega)
 rw[e1,e2,i64_or ⟨Int.natCast_nonneg _,Int.ofNat_lt.2 h1⟩ ⟨Int.natCast_nonneg _,Int.ofNat_lt.2 h2⟩]
 simp only[Int.toNat_natCast,rotw]
theorem turn_run (x:Int) (n:Nat) (w:World) (hx:W32 x) (hn:n=7∨n=8∨n=12∨n=16) :
  Calls Tryz.prog 217 #[.int .i64 x,.int .i64 n] w fun e w'=>e=.returned (.int .i64 (rotw x n))∧Below w.heap.size w w':=by
 have key:∀ p q:Int,p=((2 ^ n:Nat):Int)→q=((2 ^ (32-n):Nat):Int)→bits .or .i64 (x*p%4294967296) (x/q)=rotw x n:=fun p q=>or_rotw64 x n hx p q
 unfold W32 at hx
 go_enter Tryz.func217,Tryz.ntmps217
 rcases hn with rfl | rfl | rfl | rfl
 ·have e2:=key 128 33554432 (by decide) (by decide)
  have e3:(x*128).tmod 4294967296=x*128%4294967296:=Int.tmod_eq_emod_of_nonneg (by omega)
  go_wp2
  go_region
  go_wp2
  go_ret
  exact ⟨rfl,(Below.refl _ _).drew⟩
 ·have e2:=key 256 16777216 (by decide) (by decide)
  have e3:(x*256).tmod 4294967296=x*256%4294967296:=Int.tmod_eq_emod_of_nonneg (by omega)
  go_wp2
  go_region
  go_wp2
  go_ret
  exact ⟨rfl,(Below.refl _ _).drew⟩
 ·have e2:=key 4096 1048576 (by decide) (by decide)
  have e3:(x*4096).tmod 4294967296=x*4096%4294967296:=Int.tmod_eq_emod_of_nonneg (by omega)
  go_wp2
  go_region
  go_wp2
  go_ret
  exact ⟨rfl,(Below.refl _ _).drew⟩
 ·have e2:=key 65536 65536 (by decide) (by decide)
  have e3:(x*65536).tmod 4294967296=x*65536%4294967296:=Int.tmod_eq_emod_of_nonneg (by omega)
  go_wp2
  go_region
  go_wp2
  go_ret
  exact ⟨rfl,(Below.refl _ _).drew⟩
theorem enterTurn (args:Array Value) (w:World):(callFunc 217 args).run Tryz.prog w=.ok (.enter 217 args) w:=by kernel_rfl
theorem sum_nn {x y:Int} (hx:W32 x) (hy:W32 y):0≤x+y:=by unfold W32 at *;omega
theorem qrow_chain (s:Nat→Int) (a b c d:Nat) (hab:a≠b) (hac:a≠c) (had:a≠d) (hbc:b≠c) (hbd:b≠d) (hcd:c≠d) {s1 s2 s3 s4 s5 s6 s7 s8:Nat→Int}
  (h1:upd s a (addw (s a) (s b))=s1) (h2:upd s1 d (rotw (xorw (s1 d) (s1 a)) 16)=s2) (h3:upd s2 c (addw (s2 c) (s2 d))=s3) (h4:upd s3 b (rotw (xorw (s3 b) (s3 c)) 12)=s4)
  (h5:upd s4 a (addw (s4 a) (s4 b))=s5) (h6:upd s5 d (rotw (xorw (s5 d) (s5 a)) 8)=s6) (h7:upd s6 c (addw (s6 c) (s6 d))=s7) (h8:upd s7 b (rotw (xorw (s7 b) (s7 c)) 7)=s8):s8=qrow s a b c d:=by
 have key:∀ (f:Nat→Int) (x:Nat) (v:Int),upd f x v x=v:=fun f x v=>by simp[upd]
 have oth:∀ (f:Nat→Int) (x y:Nat) (v:Int),y≠x→upd f x v y=f y:=fun f x y v h=>by simp[upd,h]
 have a1:s1 a=addw (s a) (s b):=by rw[← h1,key]
 have b1:s1 b=s b:=by rw[← h1,oth _ _ _ _ hab.symm]
 have c1:s1 c=s c:=by rw[← h1,oth _ _ _ _ hac.symm]
 have d1:s1 d=s d:=by rw[← h1,oth _ _ _ _ had.symm]
 have a2:s2 a=s1 a:=by rw[← h2,oth _ _ _ _ had]
 have b2:s2 b=s b:=by rw[← h2,oth _ _ _ _ hbd,b1]
 have c2:s2 c=s c:=by rw[← h2,oth _ _ _ _ hcd,c1]
 have d2:s2 d=rotw (xorw (s1 d) (s1 a)) 16:=by rw[← h2,key]
 have a3:s3 a=s2 a:=by rw[← h3,oth _ _ _ _ hac]
 have b3:s3 b=s b:=by rw[← h3,oth _ _ _ _ hbc,b2]
 have c3:s3 c=addw (s2 c) (s2 d):=by rw[← h3,key]
 have d3:s3 d=s2 d:=by rw[← h3,oth _ _ _ _ hcd.symm]
 have a4:s4 a=s3 a:=by rw[← h4,oth _ _ _ _ hab]
 have b4:s4 b=rotw (xorw (s3 b) (s3 c)) 12:=by rw[← h4,key]
 have c4:s4 c=s3 c:=by rw[← h4,oth _ _ _ _ hbc.symm]
 have d4:s4 d=s3 d:=by rw[← h4,oth _ _ _ _ hbd.symm]
 have a5:s5 a=addw (s4 a) (s4 b):=by rw[← h5,key]
 have b5:s5 b=s4 b:=by rw[← h5,oth _ _ _ _ hab.symm]
 have c5:s5 c=s4 c:=by rw[← h5,oth _ _ _ _ hac.symm]
 have d5:s5 d=s4 d:=by rw[← h5,oth _ _ _ _ had.symm]
 have a6:s6 a=s5 a:=by rw[← h6,oth _ _ _ _ had]
 have b6:s6 b=s5 b:=by rw[← h6,oth _ _ _ _ hbd]
 have c6:s6 c=s5 c:=by rw[← h6,oth _ _ _ _ hcd]
 have d6:s6 d=rotw (xorw (s5 d) (s5 a)) 8:=by rw[← h6,key]
 have a7:s7 a=s6 a:=by rw[← h7,oth _ _ _ _ hac]
 have b7:s7 b=s6 b:=by rw[← h7,oth _ _ _ _ hbc]
 have c7:s7 c=addw (s6 c) (s6 d):=by rw[← h7,key]
 have d7:s7 d=s6 d:=by rw[← h7,oth _ _ _ _ hcd.symm]
 have a8:s8 a=s7 a:=by rw[← h8,oth _ _ _ _ hab]
 have b8:s8 b=rotw (xorw (s7 b) (s7 c)) 7:=by rw[← h8,key]
 have c8:s8 c=s7 c:=by rw[← h8,oth _ _ _ _ hbc.symm]
 have d8:s8 d=s7 d:=by rw[← h8,oth _ _ _ _ hbd.symm]
 have hq:quart ⟨s a,s b,s c,s d⟩=⟨s8 a,s8 b,s8 c,s8 d⟩:=by
  simp only[quart,half]
  rw[a8,b8,c8,d8,a7,b7,c7,d7,a6,b6,c6,d6,a5,b5,c5,d5,a4,b4,c4,d4,a3,b3,c3,d3,a2,c2,d2,a1,d1]
 funext i
 unfold qrow
 rw[hq]
 by_cases ia:i=a
 ·subst ia;rw[oth _ _ _ _ had,oth _ _ _ _ hac,oth _ _ _ _ hab,key]
 by_cases ib:i=b
 ·subst ib;rw[oth _ _ _ _ hbd,oth _ _ _ _ hbc,key]
 by_cases ic:i=c
 ·subst ic;rw[oth _ _ _ _ hcd,key]
 by_cases id:i=d
 ·subst id;rw[key]
 rw[oth _ _ _ _ id,oth _ _ _ _ ic,oth _ _ _ _ ib,oth _ _ _ _ ia]
 rw[← h8,oth _ _ _ _ ib,← h7,oth _ _ _ _ ic,← h6,oth _ _ _ _ id,← h5,oth _ _ _ _ ia,← h4,oth _ _ _ _ ib,← h3,oth _ _ _ _ ic,← h2,oth _ _ _ _ id,← h1,oth _ _ _ _ ia]
theorem rquarter_run (b n cp:Nat) (s0:Nat→Int) (a y c d:Nat) (w:World) (hR:RowAt w b .i64 3 n s0) (Ws0:∀ i,i<n→W32 (s0 i)) (ha:a<n) (hy:y<n) (hc:c<n) (hd:d<n)
  (hab:a≠y) (hac:a≠c) (had:a≠d) (hbc:y≠c) (hbd:y≠d) (hcd:c≠d) :
  Calls Tryz.prog 203 #[.slice (some ⟨b,0,none⟩) n cp,.int .i64 (a:Int),.int .i64 (y:Int),.int .i64 (c:Int),.int .i64 (d:Int)] w fun e w' =>
   e=.returned (.tuple #[])∧RowAt w' b .i64 3 n (qrow s0 a y c d)∧Touch (fun k=>k=b) w w':=by
 have hT:=Touch.refl (fun k=>k=b) w
 go_enter Tryz.func203,Tryz.ntmps203
 obtain ⟨s1,hs1⟩:∃ f,upd s0 a (addw (s0 a) (s0 y))=f:=⟨_,rfl⟩
 have Ws1:∀ i,i<n→W32 (s1 i):=by rw[← hs1];exact w32_upd Ws0 (addw_w _ _)
 go_wp2_with fail
 refine wp_region3 (Touch (fun k=>k=b) w) w.heap.size
  [(b,⟨rowOb .i64 3 n s0,[(13,rowOb .i64 3 n s1)]⟩)]
  [kv (.slice (some ⟨b,0,none⟩) n cp),kv (.int .i64 (a:Int)),kv (.slice (some ⟨b,0,none⟩) n cp),kv (.int .i64 (a:Int)),kv (.pointer (some ⟨b,0+a,none⟩)),kv (.int .i64 (s0 a)),kv (.slice (some ⟨b,0,none⟩) n cp),kv (.int .i64 (y:Int)),kv (.pointer (some ⟨b,0+y,none⟩)),kv (.int .i64 (s0 y)),kv (.int .i64 (s0 a+s0 y)),kv (.int .i64 (addw (s0 a) (s0 y))),kv (.pointer (some ⟨b,0+a,none⟩)),.val fun _=>True]
  [.none,.none,.none,.none,.none,.none,.none,.none,.none,.none,.none,.none,.none,.base 0 1]
  [some 10,some 11,some 12,some 13,some 14,some 15,some 16,some 17,some 18,some 19,some 20,some 21,some 22,none]
  [(0,.slice (some ⟨b,0,none⟩) n cp),(1,.int .i64 (a:Int)),(2,.int .i64 (y:Int))]
  [[],[],[],[],[.slot 2,.slot 3],[.slot 4,.base 0 0],[],[],[.slot 6,.slot 7],[.slot 8,.base 0 0],[.slot 5,.slot 9],[.slot 10],[.slot 0,.slot 1],[.slot 12,.base 0 0,.slot 11]]
  [.base 0 1] [10,11,12,13,14,15,16,17,18,19,20,21,22]
  rfl (by kernel_rfl) ⟨rfl,rfl,rfl,trivial⟩ (Touch.drew hT) (Nat.le_refl _) ⟨⟨RowAt.lt hR,hR⟩,trivial⟩ ⟨trivial,trivial⟩ (touch_S hT.size)
  ⟨
   (fun _ _ _ _ _ _ fr _=>sV (exec_move rfl fr.1)),
   (fun _ _ _ _ _ _ fr _=>sV (exec_move rfl fr.2.1)),
   (fun _ _ _ _ _ _ fr _=>sV (exec_move rfl fr.1)),
   (fun _ _ _ _ _ _ fr _=>sV (exec_move rfl fr.2.1)),
   (fun _ _ _ _ _ _ _ kn=>sV (exec_idx rfl Tryz.underlying171 size_int kn.1 kn.2.1 ha)),
   (fun _ _ _ _ _ _ _ kn=>sV (exec_ld rfl kn.1 (load_int (cell0 kn.2.1 ha)))),
   (fun _ _ _ _ _ _ fr _=>sV (exec_move rfl fr.1)),
   (fun _ _ _ _ _ _ fr _=>sV (exec_move rfl fr.2.2.1)),
   (fun _ _ _ _ _ _ _ kn=>sV (exec_idx rfl Tryz.underlying171 size_int kn.1 kn.2.1 hy)),
   (fun _ _ _ _ _ _ _ kn=>sV (exec_ld rfl kn.1 (load_int (cell0 kn.2.1 hy)))),
   (fun _ _ _ _ _ _ _ kn=>sV (exec_add rfl kn.1 kn.2.1 (sum_lo (Ws0 a ha) (Ws0 y hy)) (sum_hi (Ws0 a ha) (Ws0 y hy)))),
   (fun _ _ _ _ _ _ _ kn=>sV (exec_rem rfl kn.1 (sum_nn (Ws0 a ha) (Ws0 y hy)) (sum_hi (Ws0 a ha) (Ws0 y hy)))),
   (fun _ _ _ _ _ _ _ kn=>sV (exec_idx rfl Tryz.underlying171 size_int kn.1 kn.2.1 ha)),
   (fun _ _ _ _ _ _ _ kn=>.inl ⟨trivial,fun K hK=>act_cell rfl (ptr0 kn.1) kn.2.2.1 kn.2.1 ha (fun w2 hg ho=>hK _ _ ⟨⟨touch_only ho,hs1▸hg⟩,trivial⟩)⟩),
   trivial⟩ ?_
 intro vs0 own v1 hT0 hs0 kn inj
 clear inj
 replace hR:RowAt v1 b .i64 3 n s1:=kn.1
 clear kn hs0
 replace hT:=hT0
 clear hT0 own
 simp only[putAll,Act.put,List.setIfInBounds_toArray,List.set_cons_zero,List.set_cons_succ]
 obtain ⟨s2,hs2⟩:∃ f,upd s1 d (rotw (xorw (s1 d) (s1 a)) 16)=f:=⟨_,rfl⟩
 have Ws2:∀ i,i<n→W32 (s2 i):=by rw[← hs2];exact w32_upd Ws1 (rotw_w 16 (xorw_w (Ws1 d hd) (Ws1 a ha)))
 go_wp2_with fail
 refine wp_region3 (Touch (fun k=>k=b) w) v1.heap.size
  [(b,⟨rowOb .i64 3 n s1,[(13,rowOb .i64 3 n s2)]⟩)]
  [kv (.slice (some ⟨b,0,none⟩) n cp),kv (.int .i64 (d:Int)),kv (.slice (some ⟨b,0,none⟩) n cp),kv (.int .i64 (d:Int)),kv (.pointer (some ⟨b,0+d,none⟩)),kv (.int .i64 (s1 d)),kv (.slice (some ⟨b,0,none⟩) n cp),kv (.int .i64 (a:Int)),kv (.pointer (some ⟨b,0+a,none⟩)),kv (.int .i64 (s1 a)),kv (.int .i64 (xorw (s1 d) (s1 a))),kv (.int .i64 (rotw (xorw (s1 d) (s1 a)) 16)),kv (.pointer (some ⟨b,0+d,none⟩)),.val fun _=>True]
  [.none,.none,.none,.none,.none,.none,.none,.none,.none,.none,.none,.none,.none,.base 0 1]
  [some 23,some 24,some 25,some 26,some 27,some 28,some 29,some 30,some 31,some 32,some 33,some 34,some 35,none]
  [(0,.slice (some ⟨b,0,none⟩) n cp),(4,.int .i64 (d:Int)),(1,.int .i64 (a:Int))]
  [[],[],[],[],[.slot 2,.slot 3],[.slot 4,.base 0 0],[],[],[.slot 6,.slot 7],[.slot 8,.base 0 0],[.slot 5,.slot 9],[.slot 10],[.slot 0,.slot 1],[.slot 12,.base 0 0,.slot 11]]
  [.base 0 1] [23,24,25,26,27,28,29,30,31,32,33,34,35]
  rfl (by kernel_rfl) ⟨rfl,rfl,rfl,trivial⟩ (Touch.drew hT) (Nat.le_refl _) ⟨⟨RowAt.lt hR,hR⟩,trivial⟩ ⟨trivial,trivial⟩ (touch_S hT.size)
  ⟨
   (fun _ _ _ _ _ _ fr _=>sV (exec_move rfl fr.1)),
   (fun _ _ _ _ _ _ fr _=>sV (exec_move rfl fr.2.1)),
   (fun _ _ _ _ _ _ fr _=>sV (exec_move rfl fr.1)),
   (fun _ _ _ _ _ _ fr _=>sV (exec_move rfl fr.2.1)),
   (fun _ _ _ _ _ _ _ kn=>sV (exec_idx rfl Tryz.underlying171 size_int kn.1 kn.2.1 hd)),
   (fun _ _ _ _ _ _ _ kn=>sV (exec_ld rfl kn.1 (load_int (cell0 kn.2.1 hd)))),
   (fun _ _ _ _ _ _ fr _=>sV (exec_move rfl fr.1)),
   (fun _ _ _ _ _ _ fr _=>sV (exec_move rfl fr.2.2.1)),
   (fun _ _ _ _ _ _ _ kn=>sV (exec_idx rfl Tryz.underlying171 size_int kn.1 kn.2.1 ha)),
   (fun _ _ _ _ _ _ _ kn=>sV (exec_ld rfl kn.1 (load_int (cell0 kn.2.1 ha)))),
   (fun _ _ _ _ _ _ _ kn=>sV (exec_xor rfl kn.1 kn.2.1 (Ws1 d hd) (Ws1 a ha))),
   (fun _ _ _ _ _ _ _ kn=>.inl ⟨trivial,fun K hK=>stepc enterTurn rfl (args2 kn.1 rfl) (turn_run _ 16 _ (xorw_w (Ws1 d hd) (Ws1 a ha)) (by decide)) (fun w' hb=>hK _ _ ⟨touch_below hb,rfl⟩)⟩),
   (fun _ _ _ _ _ _ _ kn=>sV (exec_idx rfl Tryz.underlying171 size_int kn.1 kn.2.1 hd)),
   (fun _ _ _ _ _ _ _ kn=>.inl ⟨trivial,fun K hK=>act_cell rfl (ptr0 kn.1) kn.2.2.1 kn.2.1 hd (fun w2 hg ho=>hK _ _ ⟨⟨touch_only ho,hs2▸hg⟩,trivial⟩)⟩),
   trivial⟩ ?_
 intro vs1 own v2 hT1 hs1 kn inj
 clear inj
 replace hR:RowAt v2 b .i64 3 n s2:=kn.1
 clear kn hs1
 replace hT:=hT1
 clear hT1 own
 simp only[putAll,Act.put,List.setIfInBounds_toArray,List.set_cons_zero,List.set_cons_succ]
 obtain ⟨s3,hs3⟩:∃ f,upd s2 c (addw (s2 c) (s2 d))=f:=⟨_,rfl⟩
 have Ws3:∀ i,i<n→W32 (s3 i):=by rw[← hs3];exact w32_upd Ws2 (addw_w _ _)
 go_wp2_with fail
 refine wp_region3 (Touch (fun k=>k=b) w) v2.heap.size
  [(b,⟨rowOb .i64 3 n s2,[(13,rowOb .i64 3 n s3)]⟩)]
  [kv (.slice (some ⟨b,0,none⟩) n cp),kv (.int .i64 (c:Int)),kv (.slice (some ⟨b,0,none⟩) n cp),kv (.int .i64 (c:Int)),kv (.pointer (some ⟨b,0+c,none⟩)),kv (.int .i64 (s2 c)),kv (.slice (some ⟨b,0,none⟩) n cp),kv (.int .i64 (d:Int)),kv (.pointer (some ⟨b,0+d,none⟩)),kv (.int .i64 (s2 d)),kv (.int .i64 (s2 c+s2 d)),kv (.int .i64 (addw (s2 c) (s2 d))),kv (.pointer (some ⟨b,0+c,none⟩)),.val fun _=>True]
  [.none,.none,.none,.none,.none,.none,.none,.none,.none,.none,.none,.none,.none,.base 0 1]
  [some 36,some 37,some 38,some 39,some 40,some 41,some 42,some 43,some 44,some 45,some 46,some 47,some 48,none]
  [(0,.slice (some ⟨b,0,none⟩) n cp),(3,.int .i64 (c:Int)),(4,.int .i64 (d:Int))]
  [[],[],[],[],[.slot 2,.slot 3],[.slot 4,.base 0 0],[],[],[.slot 6,.slot 7],[.slot 8,.base 0 0],[.slot 5,.slot 9],[.slot 10],[.slot 0,.slot 1],[.slot 12,.base 0 0,.slot 11]]
  [.base 0 1] [36,37,38,39,40,41,42,43,44,45,46,47,48]
  rfl (by kernel_rfl) ⟨rfl,rfl,rfl,trivial⟩ (Touch.drew hT) (Nat.le_refl _) ⟨⟨RowAt.lt hR,hR⟩,trivial⟩ ⟨trivial,trivial⟩ (touch_S hT.size)
  ⟨
   (fun _ _ _ _ _ _ fr _=>sV (exec_move rfl fr.1)),
   (fun _ _ _ _ _ _ fr _=>sV (exec_move rfl fr.2.1)),
   (fun _ _ _ _ _ _ fr _=>sV (exec_move rfl fr.1)),
   (fun _ _ _ _ _ _ fr _=>sV (exec_move rfl fr.2.1)),
   (fun _ _ _ _ _ _ _ kn=>sV (exec_idx rfl Tryz.underlying171 size_int kn.1 kn.2.1 hc)),
   (fun _ _ _ _ _ _ _ kn=>sV (exec_ld rfl kn.1 (load_int (cell0 kn.2.1 hc)))),
   (fun _ _ _ _ _ _ fr _=>sV (exec_move rfl fr.1)),
   (fun _ _ _ _ _ _ fr _=>sV (exec_move rfl fr.2.2.1)),
   (fun _ _ _ _ _ _ _ kn=>sV (exec_idx rfl Tryz.underlying171 size_int kn.1 kn.2.1 hd)),
   (fun _ _ _ _ _ _ _ kn=>sV (exec_ld rfl kn.1 (load_int (cell0 kn.2.1 hd)))),
   (fun _ _ _ _ _ _ _ kn=>sV (exec_add rfl kn.1 kn.2.1 (sum_lo (Ws2 c hc) (Ws2 d hd)) (sum_hi (Ws2 c hc) (Ws2 d hd)))),
   (fun _ _ _ _ _ _ _ kn=>sV (exec_rem rfl kn.1 (sum_nn (Ws2 c hc) (Ws2 d hd)) (sum_hi (Ws2 c hc) (Ws2 d hd)))),
   (fun _ _ _ _ _ _ _ kn=>sV (exec_idx rfl Tryz.underlying171 size_int kn.1 kn.2.1 hc)),
   (fun _ _ _ _ _ _ _ kn=>.inl ⟨trivial,fun K hK=>act_cell rfl (ptr0 kn.1) kn.2.2.1 kn.2.1 hc (fun w2 hg ho=>hK _ _ ⟨⟨touch_only ho,hs3▸hg⟩,trivial⟩)⟩),
   trivial⟩ ?_
 intro vs2 own v3 hT2 hs2 kn inj
 clear inj
 replace hR:RowAt v3 b .i64 3 n s3:=kn.1
 clear kn hs2
 replace hT:=hT2
 clear hT2 own
 simp only[putAll,Act.put,List.setIfInBounds_toArray,List.set_cons_zero,List.set_cons_succ]
 obtain ⟨s4,hs4⟩:∃ f,upd s3 y (rotw (xorw (s3 y) (s3 c)) 12)=f:=⟨_,rfl⟩
 have Ws4:∀ i,i<n→W32 (s4 i):=by rw[← hs4];exact w32_upd Ws3 (rotw_w 12 (xorw_w (Ws3 y hy) (Ws3 c hc)))
 go_wp2_with fail
 refine wp_region3 (Touch (fun k=>k=b) w) v3.heap.size
  [(b,⟨rowOb .i64 3 n s3,[(13,rowOb .i64 3 n s4)]⟩)]
  [kv (.slice (some ⟨b,0,none⟩) n cp),kv (.int .i64 (y:Int)),kv (.slice (some ⟨b,0,none⟩) n cp),kv (.int .i64 (y:Int)),kv (.pointer (some ⟨b,0+y,none⟩)),kv (.int .i64 (s3 y)),kv (.slice (some ⟨b,0,none⟩) n cp),kv (.int .i64 (c:Int)),kv (.pointer (some ⟨b,0+c,none⟩)),kv (.int .i64 (s3 c)),kv (.int .i64 (xorw (s3 y) (s3 c))),kv (.int .i64 (rotw (xorw (s3 y) (s3 c)) 12)),kv (.pointer (some ⟨b,0+y,none⟩)),.val fun _=>True]
  [.none,.none,.none,.none,.none,.none,.none,.none,.none,.none,.none,.none,.none,.base 0 1]
  [some 49,some 50,some 51,some 52,some 53,some 54,some 55,some 56,some 57,some 58,some 59,some 60,some 61,none]
  [(0,.slice (some ⟨b,0,none⟩) n cp),(2,.int .i64 (y:Int)),(3,.int .i64 (c:Int))]
  [[],[],[],[],[.slot 2,.slot 3],[.slot 4,.base 0 0],[],[],[.slot 6,.slot 7],[.slot 8,.base 0 0],[.slot 5,.slot 9],[.slot 10],[.slot 0,.slot 1],[.slot 12,.base 0 0,.slot 11]]
  [.base 0 1] [49,50,51,52,53,54,55,56,57,58,59,60,61]
  rfl (by kernel_rfl) ⟨rfl,rfl,rfl,trivial⟩ (Touch.drew hT) (Nat.le_refl _) ⟨⟨RowAt.lt hR,hR⟩,trivial⟩ ⟨trivial,trivial⟩ (touch_S hT.size)
  ⟨
   (fun _ _ _ _ _ _ fr _=>sV (exec_move rfl fr.1)),
   (fun _ _ _ _ _ _ fr _=>sV (exec_move rfl fr.2.1)),
   (fun _ _ _ _ _ _ fr _=>sV (exec_move rfl fr.1)),
   (fun _ _ _ _ _ _ fr _=>sV (exec_move rfl fr.2.1)),
   (fun _ _ _ _ _ _ _ kn=>sV (exec_idx rfl Tryz.underlying171 size_int kn.1 kn.2.1 hy)),
   (fun _ _ _ _ _ _ _ kn=>sV (exec_ld rfl kn.1 (load_int (cell0 kn.2.1 hy)))),
   (fun _ _ _ _ _ _ fr _=>sV (exec_move rfl fr.1)),
   (fun _ _ _ _ _ _ fr _=>sV (exec_move rfl fr.2.2.1)),
   (fun _ _ _ _ _ _ _ kn=>sV (exec_idx rfl Tryz.underlying171 size_int kn.1 kn.2.1 hc)),
   (fun _ _ _ _ _ _ _ kn=>sV (exec_ld rfl kn.1 (load_int (cell0 kn.2.1 hc)))),
   (fun _ _ _ _ _ _ _ kn=>sV (exec_xor rfl kn.1 kn.2.1 (Ws3 y hy) (Ws3 c hc))),
   (fun _ _ _ _ _ _ _ kn=>.inl ⟨trivial,fun K hK=>stepc enterTurn rfl (args2 kn.1 rfl) (turn_run _ 12 _ (xorw_w (Ws3 y hy) (Ws3 c hc)) (by decide)) (fun w' hb=>hK _ _ ⟨touch_below hb,rfl⟩)⟩),
   (fun _ _ _ _ _ _ _ kn=>sV (exec_idx rfl Tryz.underlying171 size_int kn.1 kn.2.1 hy)),
   (fun _ _ _ _ _ _ _ kn=>.inl ⟨trivial,fun K hK=>act_cell rfl (ptr0 kn.1) kn.2.2.1 kn.2.1 hy (fun w2 hg ho=>hK _ _ ⟨⟨touch_only ho,hs4▸hg⟩,trivial⟩)⟩),
   trivial⟩ ?_
 intro vs3 own v4 hT3 hs3 kn inj
 clear inj
 replace hR:RowAt v4 b .i64 3 n s4:=kn.1
 clear kn hs3
 replace hT:=hT3
 clear hT3 own
 simp only[putAll,Act.put,List.setIfInBounds_toArray,List.set_cons_zero,List.set_cons_succ]
 obtain ⟨s5,hs5⟩:∃ f,upd s4 a (addw (s4 a) (s4 y))=f:=⟨_,rfl⟩
 have Ws5:∀ i,i<n→W32 (s5 i):=by rw[← hs5];exact w32_upd Ws4 (addw_w _ _)
 go_wp2_with fail
 refine wp_region3 (Touch (fun k=>k=b) w) v4.heap.size
  [(b,⟨rowOb .i64 3 n s4,[(13,rowOb .i64 3 n s5)]⟩)]
  [kv (.slice (some ⟨b,0,none⟩) n cp),kv (.int .i64 (a:Int)),kv (.slice (some ⟨b,0,none⟩) n cp),kv (.int .i64 (a:Int)),kv (.pointer (some ⟨b,0+a,none⟩)),kv (.int .i64 (s4 a)),kv (.slice (some ⟨b,0,none⟩) n cp),kv (.int .i64 (y:Int)),kv (.pointer (some ⟨b,0+y,none⟩)),kv (.int .i64 (s4 y)),kv (.int .i64 (s4 a+s4 y)),kv (.int .i64 (addw (s4 a) (s4 y))),kv (.pointer (some ⟨b,0+a,none⟩)),.val fun _=>True]
  [.none,.none,.none,.none,.none,.none,.none,.none,.none,.none,.none,.none,.none,.base 0 1]
  [some 62,some 63,some 64,some 65,some 66,some 67,some 68,some 69,some 70,some 71,some 72,some 73,some 74,none]
  [(0,.slice (some ⟨b,0,none⟩) n cp),(1,.int .i64 (a:Int)),(2,.int .i64 (y:Int))]
  [[],[],[],[],[.slot 2,.slot 3],[.slot 4,.base 0 0],[],[],[.slot 6,.slot 7],[.slot 8,.base 0 0],[.slot 5,.slot 9],[.slot 10],[.slot 0,.slot 1],[.slot 12,.base 0 0,.slot 11]]
  [.base 0 1] [62,63,64,65,66,67,68,69,70,71,72,73,74]
  rfl (by kernel_rfl) ⟨rfl,rfl,rfl,trivial⟩ (Touch.drew hT) (Nat.le_refl _) ⟨⟨RowAt.lt hR,hR⟩,trivial⟩ ⟨trivial,trivial⟩ (touch_S hT.size)
  ⟨
   (fun _ _ _ _ _ _ fr _=>sV (exec_move rfl fr.1)),
   (fun _ _ _ _ _ _ fr _=>sV (exec_move rfl fr.2.1)),
   (fun _ _ _ _ _ _ fr _=>sV (exec_move rfl fr.1)),
   (fun _ _ _ _ _ _ fr _=>sV (exec_move rfl fr.2.1)),
   (fun _ _ _ _ _ _ _ kn=>sV (exec_idx rfl Tryz.underlying171 size_int kn.1 kn.2.1 ha)),
   (fun _ _ _ _ _ _ _ kn=>sV (exec_ld rfl kn.1 (load_int (cell0 kn.2.1 ha)))),
   (fun _ _ _ _ _ _ fr _=>sV (exec_move rfl fr.1)),
   (fun _ _ _ _ _ _ fr _=>sV (exec_move rfl fr.2.2.1)),
   (fun _ _ _ _ _ _ _ kn=>sV (exec_idx rfl Tryz.underlying171 size_int kn.1 kn.2.1 hy)),
   (fun _ _ _ _ _ _ _ kn=>sV (exec_ld rfl kn.1 (load_int (cell0 kn.2.1 hy)))),
   (fun _ _ _ _ _ _ _ kn=>sV (exec_add rfl kn.1 kn.2.1 (sum_lo (Ws4 a ha) (Ws4 y hy)) (sum_hi (Ws4 a ha) (Ws4 y hy)))),
   (fun _ _ _ _ _ _ _ kn=>sV (exec_rem rfl kn.1 (sum_nn (Ws4 a ha) (Ws4 y hy)) (sum_hi (Ws4 a ha) (Ws4 y hy)))),
   (fun _ _ _ _ _ _ _ kn=>sV (exec_idx rfl Tryz.underlying171 size_int kn.1 kn.2.1 ha)),
   (fun _ _ _ _ _ _ _ kn=>.inl ⟨trivial,fun K hK=>act_cell rfl (ptr0 kn.1) kn.2.2.1 kn.2.1 ha (fun w2 hg ho=>hK _ _ ⟨⟨touch_only ho,hs5▸hg⟩,trivial⟩)⟩),
   trivial⟩ ?_
 intro vs4 own v5 hT4 hs4 kn inj
 clear inj
 replace hR:RowAt v5 b .i64 3 n s5:=kn.1
 clear kn hs4
 replace hT:=hT4
 clear hT4 own
 simp only[putAll,Act.put,List.setIfInBounds_toArray,List.set_cons_zero,List.set_cons_succ]
 obtain ⟨s6,hs6⟩:∃ f,upd s5 d (rotw (xorw (s5 d) (s5 a)) 8)=f:=⟨_,rfl⟩
 have Ws6:∀ i,i<n→W32 (s6 i):=by rw[← hs6];exact w32_upd Ws5 (rotw_w 8 (xorw_w (Ws5 d hd) (Ws5 a ha)))
 go_wp2_with fail
 refine wp_region3 (Touch (fun k=>k=b) w) v5.heap.size
  [(b,⟨rowOb .i64 3 n s5,[(13,rowOb .i64 3 n s6)]⟩)]
  [kv (.slice (some ⟨b,0,none⟩) n cp),kv (.int .i64 (d:Int)),kv (.slice (some ⟨b,0,none⟩) n cp),kv (.int .i64 (d:Int)),kv (.pointer (some ⟨b,0+d,none⟩)),kv (.int .i64 (s5 d)),kv (.slice (some ⟨b,0,none⟩) n cp),kv (.int .i64 (a:Int)),kv (.pointer (some ⟨b,0+a,none⟩)),kv (.int .i64 (s5 a)),kv (.int .i64 (xorw (s5 d) (s5 a))),kv (.int .i64 (rotw (xorw (s5 d) (s5 a)) 8)),kv (.pointer (some ⟨b,0+d,none⟩)),.val fun _=>True]
  [.none,.none,.none,.none,.none,.none,.none,.none,.none,.none,.none,.none,.none,.base 0 1]
  [some 75,some 76,some 77,some 78,some 79,some 80,some 81,some 82,some 83,some 84,some 85,some 86,some 87,none]
  [(0,.slice (some ⟨b,0,none⟩) n cp),(4,.int .i64 (d:Int)),(1,.int .i64 (a:Int))]
  [[],[],[],[],[.slot 2,.slot 3],[.slot 4,.base 0 0],[],[],[.slot 6,.slot 7],[.slot 8,.base 0 0],[.slot 5,.slot 9],[.slot 10],[.slot 0,.slot 1],[.slot 12,.base 0 0,.slot 11]]
  [.base 0 1] [75,76,77,78,79,80,81,82,83,84,85,86,87]
  rfl (by kernel_rfl) ⟨rfl,rfl,rfl,trivial⟩ (Touch.drew hT) (Nat.le_refl _) ⟨⟨RowAt.lt hR,hR⟩,trivial⟩ ⟨trivial,trivial⟩ (touch_S hT.size)
  ⟨
   (fun _ _ _ _ _ _ fr _=>sV (exec_move rfl fr.1)),
   (fun _ _ _ _ _ _ fr _=>sV (exec_move rfl fr.2.1)),
   (fun _ _ _ _ _ _ fr _=>sV (exec_move rfl fr.1)),
   (fun _ _ _ _ _ _ fr _=>sV (exec_move rfl fr.2.1)),
   (fun _ _ _ _ _ _ _ kn=>sV (exec_idx rfl Tryz.underlying171 size_int kn.1 kn.2.1 hd)),
   (fun _ _ _ _ _ _ _ kn=>sV (exec_ld rfl kn.1 (load_int (cell0 kn.2.1 hd)))),
   (fun _ _ _ _ _ _ fr _=>sV (exec_move rfl fr.1)),
   (fun _ _ _ _ _ _ fr _=>sV (exec_move rfl fr.2.2.1)),
   (fun _ _ _ _ _ _ _ kn=>sV (exec_idx rfl Tryz.underlying171 size_int kn.1 kn.2.1 ha)),
   (fun _ _ _ _ _ _ _ kn=>sV (exec_ld rfl kn.1 (load_int (cell0 kn.2.1 ha)))),
   (fun _ _ _ _ _ _ _ kn=>sV (exec_xor rfl kn.1 kn.2.1 (Ws5 d hd) (Ws5 a ha))),
   (fun _ _ _ _ _ _ _ kn=>.inl ⟨trivial,fun K hK=>stepc enterTurn rfl (args2 kn.1 rfl) (turn_run _ 8 _ (xorw_w (Ws5 d hd) (Ws5 a ha)) (by decide)) (fun w' hb=>hK _ _ ⟨touch_below hb,rfl⟩)⟩),
   (fun _ _ _ _ _ _ _ kn=>sV (exec_idx rfl Tryz.underlying171 size_int kn.1 kn.2.1 hd)),
   (fun _ _ _ _ _ _ _ kn=>.inl ⟨trivial,fun K hK=>act_cell rfl (ptr0 kn.1) kn.2.2.1 kn.2.1 hd (fun w2 hg ho=>hK _ _ ⟨⟨touch_only ho,hs6▸hg⟩,trivial⟩)⟩),
   trivial⟩ ?_
 intro vs5 own v6 hT5 hs5 kn inj
 clear inj
 replace hR:RowAt v6 b .i64 3 n s6:=kn.1
 clear kn hs5
 replace hT:=hT5
 clear hT5 own
 simp only[putAll,Act.put,List.setIfInBounds_toArray,List.set_cons_zero,List.set_cons_succ]
 obtain ⟨s7,hs7⟩:∃ f,upd s6 c (addw (s6 c) (s6 d))=f:=⟨_,rfl⟩
 have Ws7:∀ i,i<n→W32 (s7 i):=by rw[← hs7];exact w32_upd Ws6 (addw_w _ _)
 go_wp2_with fail
 refine wp_region3 (Touch (fun k=>k=b) w) v6.heap.size
  [(b,⟨rowOb .i64 3 n s6,[(13,rowOb .i64 3 n s7)]⟩)]
  [kv (.slice (some ⟨b,0,none⟩) n cp),kv (.int .i64 (c:Int)),kv (.slice (some ⟨b,0,none⟩) n cp),kv (.int .i64 (c:Int)),kv (.pointer (some ⟨b,0+c,none⟩)),kv (.int .i64 (s6 c)),kv (.slice (some ⟨b,0,none⟩) n cp),kv (.int .i64 (d:Int)),kv (.pointer (some ⟨b,0+d,none⟩)),kv (.int .i64 (s6 d)),kv (.int .i64 (s6 c+s6 d)),kv (.int .i64 (addw (s6 c) (s6 d))),kv (.pointer (some ⟨b,0+c,none⟩)),.val fun _=>True]
  [.none,.none,.none,.none,.none,.none,.none,.none,.none,.none,.none,.none,.none,.base 0 1]
  [some 88,some 89,some 90,some 91,some 92,some 93,some 94,some 95,some 96,some 97,some 98,some 99,some 100,none]
  [(0,.slice (some ⟨b,0,none⟩) n cp),(3,.int .i64 (c:Int)),(4,.int .i64 (d:Int))]
  [[],[],[],[],[.slot 2,.slot 3],[.slot 4,.base 0 0],[],[],[.slot 6,.slot 7],[.slot 8,.base 0 0],[.slot 5,.slot 9],[.slot 10],[.slot 0,.slot 1],[.slot 12,.base 0 0,.slot 11]]
  [.base 0 1] [88,89,90,91,92,93,94,95,96,97,98,99,100]
  rfl (by kernel_rfl) ⟨rfl,rfl,rfl,trivial⟩ (Touch.drew hT) (Nat.le_refl _) ⟨⟨RowAt.lt hR,hR⟩,trivial⟩ ⟨trivial,trivial⟩ (touch_S hT.size)
  ⟨
   (fun _ _ _ _ _ _ fr _=>sV (exec_move rfl fr.1)),
   (fun _ _ _ _ _ _ fr _=>sV (exec_move rfl fr.2.1)),
   (fun _ _ _ _ _ _ fr _=>sV (exec_move rfl fr.1)),
   (fun _ _ _ _ _ _ fr _=>sV (exec_move rfl fr.2.1)),
   (fun _ _ _ _ _ _ _ kn=>sV (exec_idx rfl Tryz.underlying171 size_int kn.1 kn.2.1 hc)),
   (fun _ _ _ _ _ _ _ kn=>sV (exec_ld rfl kn.1 (load_int (cell0 kn.2.1 hc)))),
   (fun _ _ _ _ _ _ fr _=>sV (exec_move rfl fr.1)),
   (fun _ _ _ _ _ _ fr _=>sV (exec_move rfl fr.2.2.1)),
   (fun _ _ _ _ _ _ _ kn=>sV (exec_idx rfl Tryz.underlying171 size_int kn.1 kn.2.1 hd)),
   (fun _ _ _ _ _ _ _ kn=>sV (exec_ld rfl kn.1 (load_int (cell0 kn.2.1 hd)))),
   (fun _ _ _ _ _ _ _ kn=>sV (exec_add rfl kn.1 kn.2.1 (sum_lo (Ws6 c hc) (Ws6 d hd)) (sum_hi (Ws6 c hc) (Ws6 d hd)))),
   (fun _ _ _ _ _ _ _ kn=>sV (exec_rem rfl kn.1 (sum_nn (Ws6 c hc) (Ws6 d hd)) (sum_hi (Ws6 c hc) (Ws6 d hd)))),
   (fun _ _ _ _ _ _ _ kn=>sV (exec_idx rfl Tryz.underlying171 size_int kn.1 kn.2.1 hc)),
   (fun _ _ _ _ _ _ _ kn=>.inl ⟨trivial,fun K hK=>act_cell rfl (ptr0 kn.1) kn.2.2.1 kn.2.1 hc (fun w2 hg ho=>hK _ _ ⟨⟨touch_only ho,hs7▸hg⟩,trivial⟩)⟩),
   trivial⟩ ?_
 intro vs6 own v7 hT6 hs6 kn inj
 clear inj
 replace hR:RowAt v7 b .i64 3 n s7:=kn.1
 clear kn hs6
 replace hT:=hT6
 clear hT6 own
 simp only[putAll,Act.put,List.setIfInBounds_toArray,List.set_cons_zero,List.set_cons_succ]
 obtain ⟨s8,hs8⟩:∃ f,upd s7 y (rotw (xorw (s7 y) (s7 c)) 7)=f:=⟨_,rfl⟩
 have Ws8:∀ i,i<n→W32 (s8 i):=by rw[← hs8];exact w32_upd Ws7 (rotw_w 7 (xorw_w (Ws7 y hy) (Ws7 c hc)))
 go_wp2_with fail
 refine wp_region3 (Touch (fun k=>k=b) w) v7.heap.size
  [(b,⟨rowOb .i64 3 n s7,[(13,rowOb .i64 3 n s8)]⟩)]
  [kv (.slice (some ⟨b,0,none⟩) n cp),kv (.int .i64 (y:Int)),kv (.slice (some ⟨b,0,none⟩) n cp),kv (.int .i64 (y:Int)),kv (.pointer (some ⟨b,0+y,none⟩)),kv (.int .i64 (s7 y)),kv (.slice (some ⟨b,0,none⟩) n cp),kv (.int .i64 (c:Int)),kv (.pointer (some ⟨b,0+c,none⟩)),kv (.int .i64 (s7 c)),kv (.int .i64 (xorw (s7 y) (s7 c))),kv (.int .i64 (rotw (xorw (s7 y) (s7 c)) 7)),kv (.pointer (some ⟨b,0+y,none⟩)),.val fun _=>True]
  [.none,.none,.none,.none,.none,.none,.none,.none,.none,.none,.none,.none,.none,.base 0 1]
  [some 101,some 102,some 103,some 104,some 105,some 106,some 107,some 108,some 109,some 110,some 111,some 112,some 113,none]
  [(0,.slice (some ⟨b,0,none⟩) n cp),(2,.int .i64 (y:Int)),(3,.int .i64 (c:Int))]
  [[],[],[],[],[.slot 2,.slot 3],[.slot 4,.base 0 0],[],[],[.slot 6,.slot 7],[.slot 8,.base 0 0],[.slot 5,.slot 9],[.slot 10],[.slot 0,.slot 1],[.slot 12,.base 0 0,.slot 11]]
  [.base 0 1] [101,102,103,104,105,106,107,108,109,110,111,112,113]
  rfl (by kernel_rfl) ⟨rfl,rfl,rfl,trivial⟩ (Touch.drew hT) (Nat.le_refl _) ⟨⟨RowAt.lt hR,hR⟩,trivial⟩ ⟨trivial,trivial⟩ (touch_S hT.size)
  ⟨
   (fun _ _ _ _ _ _ fr _=>sV (exec_move rfl fr.1)),
   (fun _ _ _ _ _ _ fr _=>sV (exec_move rfl fr.2.1)),
   (fun _ _ _ _ _ _ fr _=>sV (exec_move rfl fr.1)),
   (fun _ _ _ _ _ _ fr _=>sV (exec_move rfl fr.2.1)),
   (fun _ _ _ _ _ _ _ kn=>sV (exec_idx rfl Tryz.underlying171 size_int kn.1 kn.2.1 hy)),
   (fun _ _ _ _ _ _ _ kn=>sV (exec_ld rfl kn.1 (load_int (cell0 kn.2.1 hy)))),
   (fun _ _ _ _ _ _ fr _=>sV (exec_move rfl fr.1)),
   (fun _ _ _ _ _ _ fr _=>sV (exec_move rfl fr.2.2.1)),
   (fun _ _ _ _ _ _ _ kn=>sV (exec_idx rfl Tryz.underlying171 size_int kn.1 kn.2.1 hc)),
   (fun _ _ _ _ _ _ _ kn=>sV (exec_ld rfl kn.1 (load_int (cell0 kn.2.1 hc)))),
   (fun _ _ _ _ _ _ _ kn=>sV (exec_xor rfl kn.1 kn.2.1 (Ws7 y hy) (Ws7 c hc))),
   (fun _ _ _ _ _ _ _ kn=>.inl ⟨trivial,fun K hK=>stepc enterTurn rfl (args2 kn.1 rfl) (turn_run _ 7 _ (xorw_w (Ws7 y hy) (Ws7 c hc)) (by decide)) (fun w' hb=>hK _ _ ⟨touch_below hb,rfl⟩)⟩),
   (fun _ _ _ _ _ _ _ kn=>sV (exec_idx rfl Tryz.underlying171 size_int kn.1 kn.2.1 hy)),
   (fun _ _ _ _ _ _ _ kn=>.inl ⟨trivial,fun K hK=>act_cell rfl (ptr0 kn.1) kn.2.2.1 kn.2.1 hy (fun w2 hg ho=>hK _ _ ⟨⟨touch_only ho,hs8▸hg⟩,trivial⟩)⟩),
   trivial⟩ ?_
 intro vs7 own v8 hT7 hs7 kn inj
 clear inj
 replace hR:RowAt v8 b .i64 3 n s8:=kn.1
 clear kn hs7
 replace hT:=hT7
 clear hT7 own
 simp only[putAll,Act.put,List.setIfInBounds_toArray,List.set_cons_zero,List.set_cons_succ]
 go_wp2_with fail
 rw[qrow_chain s0 a y c d hab hac had hbc hbd hcd hs1 hs2 hs3 hs4 hs5 hs6 hs7 hs8] at hR
 refine bodyPost_end (results_none rfl _ _ _) rfl ?_
 exact ⟨rfl,hR,hT⟩
theorem qrow_w {n:Nat} {s:Nat→Int} {a b c d:Nat} (h:∀ i,i<n→W32 (s i)) (ha:a<n) (hb:b<n) (hc:c<n) (hd:d<n):∀ i,i<n→W32 (qrow s a b c d i):=by
 have hq:(quart ⟨s a,s b,s c,s d⟩).ok:=quart_ok ⟨h a ha,h b hb,h c hc,h d hd⟩
 exact w32_upd (w32_upd (w32_upd (w32_upd h hq.a) hq.b) hq.c) hq.d
def wrd (s:Nat→Int) (i:Nat):Int:=s (4*i)+256*s (4*i+1)+65536*s (4*i+2)+16777216*s (4*i+3)
theorem wrd_w {n:Nat} {s:Nat→Int} {i:Nat} (h:Byts n s) (hi:4*i+4≤n):W32 (wrd s i):=by
 have h0:=h (4*i) (by omega)
 have h1:=h (4*i+1) (by omega)
 have h2:=h (4*i+2) (by omega)
 have h3:=h (4*i+3) (by omega)
 unfold wrd W32
 omega
theorem or4 (x0 x1 x2 x3:Int) (h0:0≤x0∧x0<256) (h1:0≤x1∧x1<256) (h2:0≤x2∧x2<256) (h3:0≤x3∧x3<256) :
  bits .or .u32 (bits .or .u32 (bits .or .u32 x0 (x1*256)) (x2*65536)) (x3*16777216)=x0+256*x1+65536*x2+16777216*x3:=by
 rw[or_add x0 x1 8 256 rfl (by omega) (by omega) (by omega) (by omega) (by omega),or_add _ x2 16 65536 rfl (by omega) (by omega) (by omega) (by omega) (by omega),or_add _ x3 24 16777216 rfl (by omega) (by omega) (by omega) (by omega) (by omega)]
 omega
theorem wordAt_run {t:TypeId} (b n cp:Nat) (s:Nat→Int) (i:Nat) (w:World) (hR:RowAt w b .u8 t n s) (hs:Byts n s) (hi:4*i+4≤n) (hn:n≤cp) (hc:cp≤1000000) :
  Calls Tryz.prog 200 #[.slice (some ⟨b,0,none⟩) n cp,.int .i64 (i:Int)] w fun e w'=>e=.returned (.int .u32 (wrd s i))∧Below w.heap.size w w':=by
 have c0:=hR.cell (4*i) (by omega)
 have c1:=hR.cell (4*i+1) (by omega)
 have c2:=hR.cell (4*i+2) (by omega)
 have c3:=hR.cell (4*i+3) (by omega)
 have h0:=hs (4*i) (by omega)
 have h1:=hs (4*i+1) (by omega)
 have h2:=hs (4*i+2) (by omega)
 have h3:=hs (4*i+3) (by omega)
 have HO:=Hid.mk (or4 _ _ _ _ h0 h1 h2 h3)
 go_enter Tryz.func200,Tryz.ntmps200
 go_wp2
 go_region
 go_wp2
 go_ret
 exact ⟨congrArg (fun n=>Ending.returned (Value.int .u32 n)) HO.out,(Below.refl _ _).drew⟩
def putw (s:Nat→Int) (i:Nat) (v:Int):Nat→Int:=upd (upd (upd (upd s (4*i) (v%256)) (4*i+1) (v/256%256)) (4*i+2) (v/65536%256)) (4*i+3) (v/16777216%256)
theorem putw_byts {n:Nat} {s:Nat→Int} {i:Nat} {v:Int} (h:Byts n s):Byts n (putw s i v):=fun j hj=>by
 have:=h j hj
 unfold putw upd
 split
 ·omega
 split
 ·omega
 split
 ·omega
 split<;>omega
theorem putWord_walk (b n cp:Nat) (i:Nat) (v:Int) (v0 v1 v2 v3:Value) (w:World) (c0:w.cell? ⟨b,4*i,none⟩=some v0) (c1:w.cell? ⟨b,4*i+1,none⟩=some v1) (c2:w.cell? ⟨b,4*i+2,none⟩=some v2) (c3:w.cell? ⟨b,4*i+3,none⟩=some v3)
  (f0:w.frozen? ⟨b,4*i,none⟩=false) (f1:w.frozen? ⟨b,4*i+1,none⟩=false) (f2:w.frozen? ⟨b,4*i+2,none⟩=false) (f3:w.frozen? ⟨b,4*i+3,none⟩=false) (hv:W32 v) (hi:4*i+4≤n) (hn:n≤cp) (hc:cp≤1000000) :
  Calls Tryz.prog 202 #[.slice (some ⟨b,0,none⟩) n cp,.int .i64 (i:Int),.int .u32 v] w fun e w'=>e=.returned (.tuple #[]) ∧
   w'=(((w.setCell ⟨b,4*i,none⟩ (.int .u8 (v%256))).setCell ⟨b,4*i+1,none⟩ (.int .u8 (v/256%256))).setCell ⟨b,4*i+2,none⟩ (.int .u8 (v/65536%256))).setCell ⟨b,4*i+3,none⟩ (.int .u8 (v/16777216%256)):=by
 have HE:Hid (v/16777216%256=v/16777216):=Hid.mk (by unfold W32 at hv;omega)
 unfold W32 at hv
 go_enter Tryz.func202,Tryz.ntmps202
 go_wp2
 refine bodyPost_end (results_none rfl _ _ _) rfl ?_
 rw[HE.out]
 exact ⟨rfl,rfl⟩
theorem putWord_arr {t:TypeId} (b n:Nat) (s:Nat→Int) (i:Nat) (v:Int) (w:World) (hR:ArrAt w b .u8 t n s) (hv:W32 v) (hi:4*i+4≤n) (hc:n≤1000000) :
  Calls Tryz.prog 202 #[.slice (some ⟨b,0,none⟩) n n,.int .i64 (i:Int),.int .u32 v] w fun e w'=>e=.returned (.tuple #[])∧ArrAt w' b .u8 t n (putw s i v)∧Only b w w':=by
 refine (putWord_walk b n n i v _ _ _ _ w (hR.cell _ (by omega)) (hR.cell _ (by omega)) (hR.cell _ (by omega)) (hR.cell _ (by omega)) (hR.free _) (hR.free _) (hR.free _) (hR.free _) hv hi (Nat.le_refl _) hc).mono ?_
 rintro e w' ⟨rfl,rfl⟩
 exact ⟨rfl,(((hR.set _ _ (by omega)).set _ _ (by omega)).set _ _ (by omega)).set _ _ (by omega),only_set.trans (only_set.trans (only_set.trans only_set))⟩
theorem isArr12:IsArr 26 12:=⟨_,_,Tryz.underlying26,by kernel_rfl⟩
theorem isArr64:IsArr 183 64:=⟨_,_,Tryz.underlying183,by kernel_rfl⟩
theorem isSq:IsArr 207 16:=⟨_,_,Tryz.underlying207,by kernel_rfl⟩
theorem rword_run {t:TypeId} (b n cp:Nat) (s:Nat→Int) (i:Nat) (w:World) (hR:RowAt w b .u8 t n s) (hs:Byts n s) (hi:4*i+4≤n) (hn:n≤1000000) :
  Calls Tryz.prog 204 #[.slice (some ⟨b,0,none⟩) n cp,.int .i64 (4*(i:Int))] w fun e w'=>e=.returned (.int .i64 (wrd s i))∧Below w.heap.size w w':=by
 have c0:=hR.cell (4*i) (by omega)
 have c1:=hR.cell (4*i+1) (by omega)
 have c2:=hR.cell (4*i+2) (by omega)
 have c3:=hR.cell (4*i+3) (by omega)
 have h0:=hs (4*i) (by omega)
 have h1:=hs (4*i+1) (by omega)
 have h2:=hs (4*i+2) (by omega)
 have h3:=hs (4*i+3) (by omega)
 clear hR hs
 go_enter Tryz.func204,Tryz.ntmps204
 go_wp2
 go_region
 go_wp2
 go_ret
 exact ⟨rfl,(Below.refl _ _).drew⟩
def b4 (v:Int) (i:Nat):Int:=if i=0 then v%256 else if i=1 then v/256%256 else if i=2 then v/65536%256 else v/16777216%256
theorem rbytes_run (v:Int) (w:World) (hv:W32 v) :
  Calls Tryz.prog 179 #[.int .i64 v] w fun e w'=>e=.returned (.slice (some ⟨w.heap.size,0,none⟩) 4 4)∧ArrAt w' w.heap.size .u8 5 4 (b4 v)∧Below w.heap.size w w':=by
 unfold W32 at hv
 have HW:#[Value.int .u8 (v%256),.int .u8 (v/256%256),.int .u8 (v/65536%256),.int .u8 (v/16777216)]=WA .u8 4 (b4 v):=by
  have h:v/16777216%256=v/16777216:=by omega
  conv=>lhs;rw[← h]
  rfl
 have e1:v.tdiv 256=v/256:=Int.tdiv_eq_ediv_of_nonneg hv.1
 have e2:v.tdiv 65536=v/65536:=Int.tdiv_eq_ediv_of_nonneg hv.1
 have e3:v.tdiv 16777216=v/16777216:=Int.tdiv_eq_ediv_of_nonneg hv.1
 go_enter Tryz.func179,Tryz.ntmps179
 go_wp2
 go_ret
 exact ⟨rfl,heap_alloc_new w _,(Below.refl _ w).alloc (Nat.le_refl _) _⟩
def lets (i:Nat):Int:=[101,120,112,97,110,100,32,51,50,45,98,121,116,101,32,107].getD i 0
theorem lets_byts:Byts 16 lets:=by unfold Byts lets;decide
def ksq (key:Nat→Int) (n:Nat) (i:Nat):Int:=if i<n then (if i<4 then wrd lets i else wrd key (i-4)) else 0
theorem ksq_low (key:Nat→Int) (k:Nat) (hk:k<4):upd (ksq key k) k (wrd lets k)=ksq key (k+1):=by
 funext i
 unfold upd ksq
 by_cases e:i=k
 ·subst e;simp[hk]
 ·rw[if_neg e]
  by_cases h:i<k
  ·simp[h,show i<k+1 by omega]
  ·simp[h,show ¬ i<k+1 by omega]
theorem ksq_high (key:Nat→Int) (k:Nat):upd (ksq key (4+k)) (4+k) (wrd key k)=ksq key (4+(k+1)):=by
 funext i
 unfold upd ksq
 by_cases e:i=4+k
 ·subst e;rw[if_pos rfl,if_pos (by omega),if_neg (by omega)];congr 1;omega
 ·rw[if_neg e]
  by_cases h:i<4+k
  ·simp[h,show i<4+(k+1) by omega]
  ·simp[h,show ¬ i<4+(k+1) by omega]
theorem lets_WA:#[Value.int .u8 101,.int .u8 120,.int .u8 112,.int .u8 97,.int .u8 110,.int .u8 100,.int .u8 32,.int .u8 51,.int .u8 50,.int .u8 45,.int .u8 98,.int .u8 121,.int .u8 116,.int .u8 101,.int .u8 32,.int .u8 107]=WA .u8 16 lets:=rfl
theorem conv_lets (w:World):(convert 81 81 (.slice (some ⟨w.heap.size,0,none⟩) 16 16)).run Tryz.prog (w.alloc (.cells (WA .u8 16 lets) 5))=.ok (.slice (some ⟨w.heap.size,0,none⟩) 16 16) (w.alloc (.cells (WA .u8 16 lets) 5 (16,17))):=by
 have h:=Lib.run_convert_bytes_const (P:=Tryz.prog) w 81 5 (WA .u8 16 lets) 16 16 Tryz.underlying81 Tryz.underlying5
 rw[WA_size] at h
 exact h
theorem keySquare_run (key:Nat→Int) (w:World) (hk:Byts 32 key) :
  Calls Tryz.prog 199 #[.agg (WA .u8 32 key)] w fun e w'=>e=.returned (.agg (WA .u32 16 (ksq key 12)))∧Below w.heap.size w w':=by
 have HW:=lets_WA
 go_enter Tryz.func199,Tryz.ntmps199
 go_wp2
 go_loopg [6] 4 (fun m i v=>∃ k:Nat,Hid (m+k=4)∧i=.int .i64 k∧ArrAt v w.heap.size .u8 22 32 key∧ArrAt v (w.heap.size+1) .u32 207 16 (fun _=>0)∧ArrAt v (w.heap.size+1+1) .u32 207 16 (ksq key k)∧Below w.heap.size w v)
 case atStart=>exact ⟨0,Hid.mk rfl,rfl,heap_a31 w _ _ _,heap_a32 w _ _ _,ArrAt.congr (s:=fun _=>0) (heap_a3 w _ _ _) (fun _ _=>rfl),(((Below.refl _ w).alloc (by simp) _).alloc (by simp) _).alloc (by simp;omega) _⟩
 case round =>
  obtain ⟨k,HK,rfl,g0,g1,g2,hB⟩:=hrel
  have hk4:k≤4:=by have:=HK.out;omega
  by_cases hlt:k<4
  ·have hcv:=conv_lets wr
   go_wp2_with fail
   refine (wordAt_run wr.heap.size 16 16 lets k _ (RowAt.marked (heap_alloc_new wr _) (Nat.le_refl _)) lets_byts (by omega) (by omega) (by omega)).mono ?_
   rintro e v1 ⟨rfl,hb⟩
   clear hcv
   have hb2:Below wr.heap.size wr v1:=Below.trans ((Below.refl _ wr).alloc (Nat.le_refl _) _) (hb.mono (by simp))
   replace g0:=g0.kept hb2
   replace g1:=g1.kept hb2
   replace g2:=g2.kept hb2
   replace hB:=hB.trans (hb2.mono hB.size)
   clear hb hb2
   have c2:=g2.cell k (by omega)
   have f2:=g2.free k
   go_wp2_with fail
   go_roundg (4-(k+1))
   case rel=>exact ⟨k+1,Hid.mk (by omega),by go_num,g0.other _ (by omega),g1.other _ (by omega),by rw[← ksq_low key k hlt];exact g2.set k _ (by omega),Below.setCell hB (by simp;omega) _⟩
   case measure=>have:=HK.out;omega
  ·have hk2:k=4:=by omega
   subst hk2
   clear hlt hk4 HK HW
   go_wp2
   go_loopg [16] 8 (fun m i v=>∃ k:Nat,Hid (m+k=8)∧i=.int .i64 k∧ArrAt v w.heap.size .u8 22 32 key∧ArrAt v (w.heap.size+1) .u32 207 16 (fun _=>0)∧ArrAt v (w.heap.size+1+1) .u32 207 16 (ksq key (4+k))∧Below w.heap.size w v)
   case atStart=>exact ⟨0,Hid.mk rfl,rfl,g0,g1,g2,hB⟩
   case round =>
    clear g0 g1 g2 hB
    obtain ⟨k,HK,rfl,g0,g1,g2,hB⟩:=hrel
    have hk8:k≤8:=by have:=HK.out;omega
    by_cases hlt:k<8
    ·go_wp2_with fail
     refine (wordAt_run w.heap.size 32 32 key k _ g0.row hk (by omega) (by omega) (by omega)).mono ?_
     rintro e v1 ⟨rfl,hb⟩
     replace g0:=g0.kept hb
     replace g1:=g1.kept hb
     replace g2:=g2.kept hb
     replace hB:=hB.trans (hb.mono hB.size)
     clear hb
     have c2:=g2.cell (4+k) (by omega)
     have f2:=g2.free (4+k)
     go_wp2_with fail
     go_roundg (8-(k+1))
     case rel=>exact ⟨k+1,Hid.mk (by omega),by go_num,g0.other _ (by omega),g1.other _ (by omega),by rw[← ksq_high key k];exact g2.set (4+k) _ (by omega),Below.setCell hB (by simp;omega) _⟩
     case measure=>have:=HK.out;omega
    ·have hk2:k=8:=by omega
     subst hk2
     clear hlt hk8 HK
     go_wp2_with (first|(refine ld_arr isSq g2 (by rfl) ?_)|(refine st_arr isSq g1 (by rfl) (by rfl) ?_;intro v2 g3 o3))
     exact bodyPost_ret (v:=.agg (WA .u32 16 (ksq key 12))) (res_arr rfl isSq g3 rfl) rfl ⟨rfl,hB.trans (o3.below (by omega))⟩
def allB (key inn:Nat→Int):Nat→Int:=cat 48 (cat 16 lets key) inn
theorem allB_byts {key inn:Nat→Int} (hk:Byts 32 key) (hi:Byts 16 inn):Byts 64 (allB key inn):=fun i h=>by
 unfold allB cat
 by_cases h1:i<48
 ·rw[if_pos h1]
  by_cases h2:i<16
  ·rw[if_pos h2];exact lets_byts i h2
  ·rw[if_neg h2];exact hk _ (by omega)
 ·rw[if_neg h1];exact hi _ (by omega)
def rsq (key inn:Nat→Int) (i:Nat):Int:=wrd (allB key inn) i
theorem rsquare_run (key inn:Nat→Int) (w:World) (hk:Byts 32 key) (hi:Byts 16 inn) :
  Calls Tryz.prog 178 #[.agg (WA .u8 32 key),.agg (WA .u8 16 inn)] w fun e w'=>∃ b cp,e=.returned (.slice (some ⟨b,0,none⟩) 16 cp)∧16≤cp∧w.heap.size≤b∧RowAt w' b .i64 3 16 (rsq key inn)∧Below w.heap.size w w':=by
 have HW:=lets_WA
 have g0:ArrAt ((w.alloc (.cells (WA .u8 32 key) 22)).alloc (.cells (WA .u8 16 inn) 54)) w.heap.size .u8 22 32 key:=heap_alloc2_old w _ _
 have g1:ArrAt ((w.alloc (.cells (WA .u8 32 key) 22)).alloc (.cells (WA .u8 16 inn) 54)) (w.heap.size+1) .u8 54 16 inn:=heap_alloc2_new w _ _
 have hB:Below w.heap.size w ((w.alloc (.cells (WA .u8 32 key) 22)).alloc (.cells (WA .u8 16 inn) 54)):=((Below.refl _ w).alloc (by simp) _).alloc (by simp) _
 have hcv:=conv_lets ((w.alloc (.cells (WA .u8 32 key) 22)).alloc (.cells (WA .u8 16 inn) 54))
 rw[show ((w.alloc (.cells (WA .u8 32 key) 22)).alloc (.cells (WA .u8 16 inn) 54)).heap.size=w.heap.size+1+1 by simp] at hcv
 go_enter Tryz.func178,Tryz.ntmps178
 have gl:RowAt (((w.alloc (.cells (WA .u8 32 key) 22)).alloc (.cells (WA .u8 16 inn) 54)).alloc (.cells (WA .u8 16 lets) 5 (16,17))) (w.heap.size+1+1) .u8 5 16 lets:=RowAt.marked (heap_a3 w _ _ _) (Nat.le_refl _)
 replace g0:=g0.alloc (.cells (WA .u8 16 lets) 5 (16,17))
 replace g1:=g1.alloc (.cells (WA .u8 16 lets) 5 (16,17))
 replace hB:=hB.alloc hB.size (.cells (WA .u8 16 lets) 5 (16,17))
 go_wp2_with (at_builtin;refine ap_full rfl _ _ 81 5 .u8 1 Tryz.underlying81 infoByte (by decide) (by rfl) (n:=16) (m:=32) (by rfl) gl.cell (by rfl) (r:=key) (fun j hj=>by rw[Nat.zero_add];exact g0.cell j hj) (by decide) (by decide) ?_;intro va v1 h1 hb1;refine Hid.out ?_)
 clear hcv gl g0 HW
 replace g1:=g1.kept hb1
 have hsz:(((w.alloc (.cells (WA .u8 32 key) 22)).alloc (.cells (WA .u8 16 inn) 54)).alloc (.cells (WA .u8 16 lets) 5 (16,17))).heap.size=w.heap.size+1+1+1:=by simp
 replace hB:=hB.trans (hb1.mono hB.size)
 have hz1:=hb1.size
 rw[hsz] at h1 hz1
 clear hb1 hsz
 refine Hid.mk ?_
 go_wp2_with (at_builtin;refine ap_own rfl _ _ 81 5 .u8 1 Tryz.underlying81 infoByte (by decide) (by rfl) (n:=16+32) (m:=16) (by rfl) h1 (by rfl) (r:=inn) (fun j hj=>by rw[Nat.zero_add];exact g1.cell j hj) (by decide) hz1 ?_;intro vb v2 h2 hb2;refine Hid.out ?_)
 have h3:v2.ownsRow (w.heap.size+1+1+1) 5 1 vb 64 (nums .u8 64 (allB key inn)):=h2
 replace hB:=hB.trans (hb2.mono (by omega))
 clear h1 h2 hb2 g1
 obtain ⟨b,cp,rfl,hbb,hcp,hR⟩:=own_row h3 (by decide)
 have hA:=allB_byts hk hi
 have HF:Hid (∀ i,wrd (allB key inn) i=rsq key inn i):=Hid.mk (fun _=>rfl)
 generalize allB key inn=al at *
 clear h3 hz1
 refine Hid.mk ?_
 go_wp2_with fail
 go_loopg [6,7] 16 (fun m vs i v=>∃ k:Nat,Hid (m+k=16)∧i=.int .i64 k∧v.ownsRow v2.heap.size 3 1 vs k (nums .i64 k (rsq key inn))∧Below v2.heap.size v2 v)
 case atStart=>exact ⟨0,Hid.mk rfl,rfl,World.ownsRow_nil v2 _ _ _,Below.refl _ _⟩
 case round =>
  obtain ⟨k,HK,rfl,hO,hb⟩:=hrel
  have hk16:k≤16:=by have:=HK.out;omega
  by_cases hlt:k<16
  ·go_wp2_with fail
   refine (rword_run b 64 cp al k _ (hR.below hb hR.lt) hA (by omega) (by omega)).mono ?_
   rintro e v3 ⟨rfl,hb3⟩
   rw[HF.out]
   replace hO:=own_kept (own_kept hO hb3) ((Below.refl _ v3).alloc (Nat.le_refl _) (.cells #[.int .i64 (rsq key inn k)] 3))
   replace hb:=(hb.trans (hb3.mono hb.size)).alloc (Nat.le_trans hb.size hb3.size) (.cells #[.int .i64 (rsq key inn k)] 3)
   clear hb3
   go_wp2_with (at_builtin;refine ap_own rfl _ _ 171 3 .i64 8 Tryz.underlying171 infoInt (by decide) (by rfl) (n:=k) (m:=1) (by rfl) hO (by rfl) (r:=fun _=>rsq key inn k) (fun j hj=>by obtain rfl:j=0:=(by omega);exact cell_of_row _ _ 0 _ _ _ (heap_alloc_new v3 _)) (by omega) hb.size ?_;intro vb v4 h4 hb4;refine Hid.out ?_)
   rw[nums_congr (cat_one k (rsq key inn))] at h4
   replace hb:=hb.trans hb4
   clear hb4 hO
   refine Hid.mk ?_
   go_wp2_with fail
   go_roundg (16-(k+1))
   case rel=>exact ⟨k+1,Hid.mk (by omega),by go_num,h4,hb⟩
   case measure=>have:=HK.out;omega
  ·have hk2:k=16:=by omega
   subst hk2
   obtain ⟨b',cp',rfl,hb',hcp',hR'⟩:=own_row hO (by decide)
   have hz:=hB.size
   go_wp2_with fail
   go_ret
   exact ⟨b',cp',rfl,hcp',by omega,hR',hB.trans (hb.mono hz)⟩
def ssq (key:Nat→Int) (c:Int) (nonce:Nat→Int) (k:Nat) (i:Nat):Int:=if i=12 then c else if 12<i∧i<13+k then wrd nonce (i-13) else ksq key 12 i
theorem ssq_0 (key:Nat→Int) (c:Int) (nonce:Nat→Int):upd (ksq key 12) 12 c=ssq key c nonce 0:=by
 funext i
 unfold upd ssq
 by_cases e:i=12
 ·simp[e]
 ·rw[if_neg e,if_neg e,if_neg (by omega)]
theorem ssq_step (key:Nat→Int) (c:Int) (nonce:Nat→Int) (k:Nat):upd (ssq key c nonce k) (13+k) (wrd nonce k)=ssq key c nonce (k+1):=by
 funext i
 unfold upd ssq
 by_cases e:i=13+k
 ·subst e;rw[if_pos rfl,if_neg (by omega),if_pos (by omega)];congr 1;omega
 ·rw[if_neg e]
  by_cases h:i=12
  ·simp[h]
  ·rw[if_neg h,if_neg h]
   by_cases h':12<i∧i<13+k
   ·rw[if_pos h',if_pos (by omega)]
   ·rw[if_neg h',if_neg (by omega)]
theorem streamSquare_run (key nonce:Nat→Int) (c:Int) (w:World) (hk:Byts 32 key) (hn:Byts 12 nonce) :
  Calls Tryz.prog 181 #[.agg (WA .u8 32 key),.int .u32 c,.agg (WA .u8 12 nonce)] w fun e w'=>e=.returned (.agg (WA .u32 16 (ssq key c nonce 3)))∧Below w.heap.size w w':=by
 have g0:ArrAt (((w.alloc (.cells (WA .u8 32 key) 22)).alloc (.cells (WA .u8 12 nonce) 26)).alloc (.cells (WA .u32 16 fun _=>0) 207)) w.heap.size .u8 22 32 key:=heap_a31 w _ _ _
 have g1:ArrAt (((w.alloc (.cells (WA .u8 32 key) 22)).alloc (.cells (WA .u8 12 nonce) 26)).alloc (.cells (WA .u32 16 fun _=>0) 207)) (w.heap.size+1) .u8 26 12 nonce:=heap_a32 w _ _ _
 have g2:ArrAt (((w.alloc (.cells (WA .u8 32 key) 22)).alloc (.cells (WA .u8 12 nonce) 26)).alloc (.cells (WA .u32 16 fun _=>0) 207)) (w.heap.size+1+1) .u32 207 16 (fun _=>0):=heap_a3 w _ _ _
 have hB:Below w.heap.size w (((w.alloc (.cells (WA .u8 32 key) 22)).alloc (.cells (WA .u8 12 nonce) 26)).alloc (.cells (WA .u32 16 fun _=>0) 207)):=(((Below.refl _ w).alloc (by simp) _).alloc (by simp) _).alloc (by simp;omega) _
 go_enter Tryz.func181,Tryz.ntmps181
 go_wp2_with (first|(refine ld_arr isArr32 g0 (by rfl) ?_))
 refine (keySquare_run key _ hk).mono ?_
 rintro e v1 ⟨rfl,hb⟩
 replace g0:=g0.kept hb
 replace g1:=g1.kept hb
 replace g2:=g2.kept hb
 replace hB:=hB.trans (hb.mono hB.size)
 clear hb
 go_wp2_with (first|(refine st_arr (s':=fun _=>0) (k':=.u32) isSq (heap_alloc_new v1 _) (by rfl) (by rfl) ?_;intro v2 g3 o3;refine Hid.out ?_))
 have hs1:=g2.lt
 replace g1:=(g1.alloc _).only o3 (Nat.ne_of_lt g1.lt)
 replace g2:=(g2.alloc _).only o3 (Nat.ne_of_lt g2.lt)
 replace hB:=(hB.alloc hB.size _).trans (o3.below hB.size)
 clear o3 g0
 generalize v1.heap.size=B3 at *
 have c3:=g3.cell 12 (by omega)
 have f3:=g3.free 12
 refine Hid.mk ?_
 go_wp2_with fail
 replace g1:=g1.other (g:=B3) (i:=12) (.int .u32 c) (by omega)
 replace g2:=g2.other (g:=B3) (i:=12) (.int .u32 c) (by omega)
 replace g3:=g3.set 12 c (by omega)
 rw[ssq_0 key c nonce] at g3
 replace hB:=Below.setCell hB (p:=⟨B3,12,none⟩) (by simp;omega) (.int .u32 c)
 clear c3 f3
 go_loopg [13] 3 (fun m i v=>∃ k:Nat,Hid (m+k=3)∧i=.int .i64 k∧ArrAt v (w.heap.size+1) .u8 26 12 nonce∧ArrAt v (w.heap.size+1+1) .u32 207 16 (fun _=>0)∧ArrAt v B3 .u32 207 16 (ssq key c nonce k)∧Below w.heap.size w v)
 case atStart=>exact ⟨0,Hid.mk rfl,rfl,g1,g2,g3,hB⟩
 case round =>
  clear g1 g2 g3 hB
  obtain ⟨k,HK,rfl,g1,g2,g3,hB⟩:=hrel
  have hk3:k≤3:=by have:=HK.out;omega
  by_cases hlt:k<3
  ·go_wp2_with fail
   refine (wordAt_run (w.heap.size+1) 12 12 nonce k _ g1.row hn (by omega) (by omega) (by omega)).mono ?_
   rintro e v3 ⟨rfl,hb⟩
   replace g1:=g1.kept hb
   replace g2:=g2.kept hb
   replace g3:=g3.kept hb
   replace hB:=hB.trans (hb.mono hB.size)
   clear hb
   have c3:=g3.cell (13+k) (by omega)
   have f3:=g3.free (13+k)
   go_wp2_with fail
   go_roundg (3-(k+1))
   case rel=>exact ⟨k+1,Hid.mk (by omega),by go_num,g1.other _ (by omega),g2.other _ (by omega),by rw[← ssq_step key c nonce k];exact g3.set (13+k) _ (by omega),Below.setCell hB (by simp;omega) _⟩
   case measure=>have:=HK.out;omega
  ·have hk2:k=3:=by omega
   subst hk2
   clear hlt hk3 HK
   go_wp2_with (first|(refine ld_arr isSq g3 (by rfl) ?_)|(refine st_arr isSq g2 (by rfl) (by rfl) ?_;intro v4 g4 o4))
   exact bodyPost_ret (v:=.agg (WA .u32 16 (ssq key c nonce 3))) (res_arr rfl isSq g4 rfl) rfl ⟨rfl,hB.trans (o4.below (by omega))⟩
theorem ahead_run (s:Nat→Int) (n:Int) (w:World) :
  Calls Tryz.prog 183 #[.agg (WA .u32 16 s),.int .u32 n] w fun e w'=>e=.returned (.agg (WA .u32 16 (upd s 12 (addw (s 12) n))))∧Below w.heap.size w w':=by
 unfold addw
 have e0:=WA_get .u32 16 s 12 (by omega)
 have e1:=WA_set .u32 16 s 12 ((s 12+n)%4294967296) (by omega)
 go_enter Tryz.func183,Tryz.ntmps183
 go_wp2_with (first|(refine ld_arr isSq (heap_alloc2_old w _ _) (by rfl) ?_)|(refine st_arr (s':=fun _=>0) (k':=.u32) isSq (heap_alloc2_new w _ _) (by rfl) (by rfl) ?_;intro v4 g4 o4))
 exact bodyPost_ret (v:=.agg (WA .u32 16 (upd s 12 ((s 12+n)%4294967296)))) (res_arr rfl isSq g4 rfl) rfl ⟨rfl,(((Below.refl _ w).alloc (by simp) _).alloc (by simp) _).trans (o4.below (by omega))⟩
def dbl (s:Nat→Int):Nat→Int :=
 qrow (qrow (qrow (qrow (qrow (qrow (qrow (qrow s 0 4 8 12) 1 5 9 13) 2 6 10 14) 3 7 11 15) 0 5 10 15) 1 6 11 12) 2 7 8 13) 3 4 9 14
def rnds (s:Nat→Int):Nat→Nat→Int
 | 0=>s
 | k+1=>dbl (rnds s k)
theorem dbl_w {s:Nat→Int} (h:∀ i,i<16→W32 (s i)):∀ i,i<16→W32 (dbl s i) :=
 qrow_w (qrow_w (qrow_w (qrow_w (qrow_w (qrow_w (qrow_w (qrow_w h (by decide) (by decide) (by decide) (by decide)) (by decide) (by decide) (by decide) (by decide)) (by decide) (by decide) (by decide) (by decide)) (by decide) (by decide) (by decide) (by decide)) (by decide) (by decide) (by decide) (by decide)) (by decide) (by decide) (by decide) (by decide)) (by decide) (by decide) (by decide) (by decide)) (by decide) (by decide) (by decide) (by decide)
theorem rnds_w {s:Nat→Int} (h:∀ i,i<16→W32 (s i)):∀ k i,i<16→W32 (rnds s k i)
 | 0=>h
 | k+1=>dbl_w (rnds_w h k)
theorem rounds_run (s:Nat→Int) (w:World) (hs:∀ i,i<16→W32 (s i)) :
  Calls Tryz.prog 201 #[.agg (WA .u32 16 s)] w fun e w'=>e=.returned (.agg (WA .u32 16 (rnds s 10)))∧Below w.heap.size w w':=by
 go_enter Tryz.func201,Tryz.ntmps201
 go_wp2_with fail
 go_loopg [3] 10 (fun m i v=>∃ k:Nat,Hid (m+k=10)∧i=.int .i64 k∧ArrAt v w.heap.size .u32 207 16 (rnds s k)∧ArrAt v (w.heap.size+1) .u32 207 16 (fun _=>0)∧Below w.heap.size w v)
 case atStart=>exact ⟨0,Hid.mk rfl,rfl,heap_alloc2_old w _ _,heap_alloc2_new w _ _,((Below.refl _ w).alloc (by simp) _).alloc (by simp) _⟩
 case round =>
  obtain ⟨k,HK,rfl,g,g1,hB⟩:=hrel
  have hk10:k≤10:=by have:=HK.out;omega
  by_cases hlt:k<10
  ·have HN:Hid (dbl (rnds s k)=rnds s (k+1)):=Hid.mk rfl
   have W0:=rnds_w hs k
   generalize rnds s k=s0 at *
   unfold dbl at HN
   go_wp2_with (first|(refine ld_cell g (by rfl) (by decide) ?_))
   refine (quarter_run (s0 0) (s0 4) (s0 8) (s0 12) _ (W0 0 (by decide)) (W0 4 (by decide)) (W0 8 (by decide)) (W0 12 (by decide))).mono ?_
   rintro e vq ⟨rfl,rfl⟩
   go_wp2_with (first|(refine st_cell (i:=12) g (by rfl) (by rfl) (by decide) ?_;clear g;intro v2 g o2;replace g1:=g1.only o2 (by omega);replace hB:=hB.trans (o2.below (Nat.le_refl _));clear o2;refine Hid.out ?_)|(refine st_cell g (by rfl) (by rfl) (by decide) ?_;clear g;intro v2 g o2;replace g1:=g1.only o2 (by omega);replace hB:=hB.trans (o2.below (Nat.le_refl _));clear o2))
   replace g:ArrAt v2 w.heap.size .u32 207 16 (qrow s0 0 4 8 12):=g
   have W1:=qrow_w (a:=0) (b:=4) (c:=8) (d:=12) W0 (by decide) (by decide) (by decide) (by decide)
   generalize qrow s0 0 4 8 12=s1 at *
   clear W0
   refine Hid.mk ?_
   go_wp2_with (first|(refine ld_cell g (by rfl) (by decide) ?_))
   refine (quarter_run (s1 1) (s1 5) (s1 9) (s1 13) _ (W1 1 (by decide)) (W1 5 (by decide)) (W1 9 (by decide)) (W1 13 (by decide))).mono ?_
   rintro e vq ⟨rfl,rfl⟩
   go_wp2_with (first|(refine st_cell (i:=13) g (by rfl) (by rfl) (by decide) ?_;clear g;intro v2 g o2;replace g1:=g1.only o2 (by omega);replace hB:=hB.trans (o2.below (Nat.le_refl _));clear o2;refine Hid.out ?_)|(refine st_cell g (by rfl) (by rfl) (by decide) ?_;clear g;intro v2 g o2;replace g1:=g1.only o2 (by omega);replace hB:=hB.trans (o2.below (Nat.le_refl _));clear o2))
   replace g:ArrAt v2 w.heap.size .u32 207 16 (qrow s1 1 5 9 13):=g
   have W2:=qrow_w (a:=1) (b:=5) (c:=9) (d:=13) W1 (by decide) (by decide) (by decide) (by decide)
   generalize qrow s1 1 5 9 13=s2 at *
   clear W1
   refine Hid.mk ?_
   go_wp2_with (first|(refine ld_cell g (by rfl) (by decide) ?_))
   refine (quarter_run (s2 2) (s2 6) (s2 10) (s2 14) _ (W2 2 (by decide)) (W2 6 (by decide)) (W2 10 (by decide)) (W2 14 (by decide))).mono ?_
   rintro e vq ⟨rfl,rfl⟩
   go_wp2_with (first|(refine st_cell (i:=14) g (by rfl) (by rfl) (by decide) ?_;clear g;intro v2 g o2;replace g1:=g1.only o2 (by omega);replace hB:=hB.trans (o2.below (Nat.le_refl _));clear o2;refine Hid.out ?_)|(refine st_cell g (by rfl) (by rfl) (by decide) ?_;clear g;intro v2 g o2;replace g1:=g1.only o2 (by omega);replace hB:=hB.trans (o2.below (Nat.le_refl _));clear o2))
   replace g:ArrAt v2 w.heap.size .u32 207 16 (qrow s2 2 6 10 14):=g
   have W3:=qrow_w (a:=2) (b:=6) (c:=10) (d:=14) W2 (by decide) (by decide) (by decide) (by decide)
   generalize qrow s2 2 6 10 14=s3 at *
   clear W2
   refine Hid.mk ?_
   go_wp2_with (first|(refine ld_cell g (by rfl) (by decide) ?_))
   refine (quarter_run (s3 3) (s3 7) (s3 11) (s3 15) _ (W3 3 (by decide)) (W3 7 (by decide)) (W3 11 (by decide)) (W3 15 (by decide))).mono ?_
   rintro e vq ⟨rfl,rfl⟩
   go_wp2_with (first|(refine st_cell (i:=15) g (by rfl) (by rfl) (by decide) ?_;clear g;intro v2 g o2;replace g1:=g1.only o2 (by omega);replace hB:=hB.trans (o2.below (Nat.le_refl _));clear o2;refine Hid.out ?_)|(refine st_cell g (by rfl) (by rfl) (by decide) ?_;clear g;intro v2 g o2;replace g1:=g1.only o2 (by omega);replace hB:=hB.trans (o2.below (Nat.le_refl _));clear o2))
   replace g:ArrAt v2 w.heap.size .u32 207 16 (qrow s3 3 7 11 15):=g
   have W4:=qrow_w (a:=3) (b:=7) (c:=11) (d:=15) W3 (by decide) (by decide) (by decide) (by decide)
   generalize qrow s3 3 7 11 15=s4 at *
   clear W3
   refine Hid.mk ?_
   go_wp2_with (first|(refine ld_cell g (by rfl) (by decide) ?_))
   refine (quarter_run (s4 0) (s4 5) (s4 10) (s4 15) _ (W4 0 (by decide)) (W4 5 (by decide)) (W4 10 (by decide)) (W4 15 (by decide))).mono ?_
   rintro e vq ⟨rfl,rfl⟩
   go_wp2_with (first|(refine st_cell (i:=15) g (by rfl) (by rfl) (by decide) ?_;clear g;intro v2 g o2;replace g1:=g1.only o2 (by omega);replace hB:=hB.trans (o2.below (Nat.le_refl _));clear o2;refine Hid.out ?_)|(refine st_cell g (by rfl) (by rfl) (by decide) ?_;clear g;intro v2 g o2;replace g1:=g1.only o2 (by omega);replace hB:=hB.trans (o2.below (Nat.le_refl _));clear o2))
   replace g:ArrAt v2 w.heap.size .u32 207 16 (qrow s4 0 5 10 15):=g
   have W5:=qrow_w (a:=0) (b:=5) (c:=10) (d:=15) W4 (by decide) (by decide) (by decide) (by decide)
   generalize qrow s4 0 5 10 15=s5 at *
   clear W4
   refine Hid.mk ?_
   go_wp2_with (first|(refine ld_cell g (by rfl) (by decide) ?_))
   refine (quarter_run (s5 1) (s5 6) (s5 11) (s5 12) _ (W5 1 (by decide)) (W5 6 (by decide)) (W5 11 (by decide)) (W5 12 (by decide))).mono ?_
   rintro e vq ⟨rfl,rfl⟩
   go_wp2_with (first|(refine st_cell (i:=12) g (by rfl) (by rfl) (by decide) ?_;clear g;intro v2 g o2;replace g1:=g1.only o2 (by omega);replace hB:=hB.trans (o2.below (Nat.le_refl _));clear o2;refine Hid.out ?_)|(refine st_cell g (by rfl) (by rfl) (by decide) ?_;clear g;intro v2 g o2;replace g1:=g1.only o2 (by omega);replace hB:=hB.trans (o2.below (Nat.le_refl _));clear o2))
   replace g:ArrAt v2 w.heap.size .u32 207 16 (qrow s5 1 6 11 12):=g
   have W6:=qrow_w (a:=1) (b:=6) (c:=11) (d:=12) W5 (by decide) (by decide) (by decide) (by decide)
   generalize qrow s5 1 6 11 12=s6 at *
   clear W5
   refine Hid.mk ?_
   go_wp2_with (first|(refine ld_cell g (by rfl) (by decide) ?_))
   refine (quarter_run (s6 2) (s6 7) (s6 8) (s6 13) _ (W6 2 (by decide)) (W6 7 (by decide)) (W6 8 (by decide)) (W6 13 (by decide))).mono ?_
   rintro e vq ⟨rfl,rfl⟩
   go_wp2_with (first|(refine st_cell (i:=13) g (by rfl) (by rfl) (by decide) ?_;clear g;intro v2 g o2;replace g1:=g1.only o2 (by omega);replace hB:=hB.trans (o2.below (Nat.le_refl _));clear o2;refine Hid.out ?_)|(refine st_cell g (by rfl) (by rfl) (by decide) ?_;clear g;intro v2 g o2;replace g1:=g1.only o2 (by omega);replace hB:=hB.trans (o2.below (Nat.le_refl _));clear o2))
   replace g:ArrAt v2 w.heap.size .u32 207 16 (qrow s6 2 7 8 13):=g
   have W7:=qrow_w (a:=2) (b:=7) (c:=8) (d:=13) W6 (by decide) (by decide) (by decide) (by decide)
   generalize qrow s6 2 7 8 13=s7 at *
   clear W6
   refine Hid.mk ?_
   go_wp2_with (first|(refine ld_cell g (by rfl) (by decide) ?_))
   refine (quarter_run (s7 3) (s7 4) (s7 9) (s7 14) _ (W7 3 (by decide)) (W7 4 (by decide)) (W7 9 (by decide)) (W7 14 (by decide))).mono ?_
   rintro e vq ⟨rfl,rfl⟩
   go_wp2_with (first|(refine st_cell (i:=14) g (by rfl) (by rfl) (by decide) ?_;clear g;intro v2 g o2;replace g1:=g1.only o2 (by omega);replace hB:=hB.trans (o2.below (Nat.le_refl _));clear o2;refine Hid.out ?_)|(refine st_cell g (by rfl) (by rfl) (by decide) ?_;clear g;intro v2 g o2;replace g1:=g1.only o2 (by omega);replace hB:=hB.trans (o2.below (Nat.le_refl _));clear o2))
   replace g:ArrAt v2 w.heap.size .u32 207 16 (qrow s7 3 4 9 14):=g
   have W8:=qrow_w (a:=3) (b:=4) (c:=9) (d:=14) W7 (by decide) (by decide) (by decide) (by decide)
   rw[HN.out] at g
   refine Hid.mk ?_
   go_wp2_with fail
   go_roundg (10-(k+1))
   case rel=>exact ⟨k+1,Hid.mk (by omega),by go_num,g,g1,hB⟩
   case measure=>have:=HK.out;omega
  ·have hk2:k=10:=by omega
   subst hk2
   clear hlt hk10 HK
   go_wp2_with (first|(refine ld_arr isSq g (by rfl) ?_)|(refine st_arr isSq g1 (by rfl) (by rfl) ?_;intro v4 g4 o4))
   exact bodyPost_ret (v:=.agg (WA .u32 16 (rnds s 10))) (res_arr rfl isSq g4 rfl) rfl ⟨rfl,hB.trans (o4.below (by omega))⟩
def col (s:Nat→Int):Nat→Nat→Int
 | 0=>s
 | k+1=>qrow (col s k) k (4+k) (8+k) (12+k)
def dia (s:Nat→Int):Nat→Nat→Int
 | 0=>s
 | k+1=>qrow (dia s k) k (4+(k+1)%4) (8+(k+2)%4) (12+(k+3)%4)
theorem col_w {s:Nat→Int} (h:∀ i,i<16→W32 (s i)):∀ k,k≤4→∀ i,i<16→W32 (col s k i)
 | 0,_=>h
 | k+1,hk=>qrow_w (col_w h k (by omega)) (by omega) (by omega) (by omega) (by omega)
theorem dia_w {s:Nat→Int} (h:∀ i,i<16→W32 (s i)):∀ k,k≤4→∀ i,i<16→W32 (dia s k i)
 | 0,_=>h
 | k+1,hk=>qrow_w (dia_w h k (by omega)) (by omega) (by omega) (by omega) (by omega)
theorem tmod4 (k n:Nat):((k:Int)+n).tmod 4=(((k+n)%4:Nat):Int):=by
 rw[Int.tmod_eq_emod_of_nonneg (by omega)];omega
theorem cat_zero (f r:Nat→Int):∀ i,i<0+16→cat 0 f r i=r i:=fun i _=>by simp[cat]
theorem twenty_run (s:Nat→Int) (b cp:Nat) (w:World) (hR:RowAt w b .i64 3 16 s) (hs:∀ i,i<16→W32 (s i)) :
  Calls Tryz.prog 177 #[.slice (some ⟨b,0,none⟩) 16 cp] w fun e w'=>∃ b' cp',e=.returned (.slice (some ⟨b',0,none⟩) 16 cp')∧16≤cp'∧w.heap.size≤b'∧RowAt w' b' .i64 3 16 (rnds s 10)∧Below w.heap.size w w':=by
 go_enter Tryz.func177,Tryz.ntmps177
 have HR:Hid (∀ j,j<16→(w.alloc (.cells #[] 3)).cell? ⟨b,0+j,none⟩=some (.int .i64 (s j))):=Hid.mk (fun j hj=>by rw[Nat.zero_add];exact (hR.alloc _).cell j hj)
 clear hR
 go_wp2_with (at_builtin;refine ap_full rfl _ _ 171 3 .i64 8 Tryz.underlying171 infoInt (by decide) (by rfl) (n:=0) (m:=16) (f:=s) (by rfl) (fun j hj=>by omega) (by rfl) (r:=s) HR.out (by decide) (by decide) ?_;intro va v1 h1 hb1;refine Hid.out ?_)
 clear HR
 rw[nums_congr (cat_zero s s)] at h1
 obtain ⟨b',cp',rfl,hbb,hcp,hR⟩:=own_row h1 (by decide)
 replace hcp:16≤cp':=hcp
 replace hR:RowAt v1 b' .i64 3 16 (rnds s 0):=hR
 replace hbb:w.heap.size≤b':=by simp at hbb;omega
 have hB:Below w.heap.size w v1:=Below.trans ((Below.refl _ w).alloc (Nat.le_refl _) _) (hb1.mono (by simp))
 clear h1 hb1
 refine Hid.mk ?_
 simp only[Nat.zero_add]
 go_wp2_with fail
 go_loopg [3] 10 (fun m i v=>∃ k:Nat,Hid (m+k=10)∧i=.int .i64 k∧RowAt v b' .i64 3 16 (rnds s k)∧Below w.heap.size w v)
 case atStart=>exact ⟨0,Hid.mk rfl,rfl,hR,hB⟩
 case round =>
  clear hR hB
  obtain ⟨k,HK,rfl,hR,hB⟩:=hrel
  have hk10:k≤10:=by have:=HK.out;omega
  by_cases hlt:k<10
  ·have HN:Hid (dia (col (rnds s k) 4) 4=rnds s (k+1)):=Hid.mk rfl
   have W0:=rnds_w hs k
   generalize rnds s k=s0 at *
   have hd:decide ((k:Int)<10)=true:=by simp;omega
   go_wp2_with fail
   generalize wr=wo at *
   go_loopg [4] 4 (fun m i v=>∃ j:Nat,Hid (m+j=4)∧i=.int .i64 j∧RowAt v b' .i64 3 16 (col s0 j)∧Below w.heap.size w v)
   case atStart=>exact ⟨0,Hid.mk rfl,rfl,hR,hB⟩
   case round =>
    clear hR hB
    obtain ⟨j,HJ,rfl,hR,hB⟩:=hrel
    have hj4:j≤4:=by have:=HJ.out;omega
    by_cases hjl:j<4
    ·go_wp2_with fail
     refine (rquarter_run b' 16 cp' (col s0 j) j (4+j) (8+j) (12+j) wr hR (col_w W0 j hj4) (by omega) (by omega) (by omega) (by omega) (by omega) (by omega) (by omega) (by omega) (by omega) (by omega)).mono ?_
     rintro e v2 ⟨rfl,hR2,hT⟩
     replace hB:=hB.trans (below_touch hT hbb hB.size)
     clear hT hR
     go_wp2_with fail
     go_roundg (4-(j+1))
     case rel=>exact ⟨j+1,Hid.mk (by omega),by go_num,hR2,hB⟩
     case measure=>have:=HJ.out;omega
    ·have hj2:j=4:=by omega
     subst hj2
     clear hjl hj4 HJ
     have W1:=col_w W0 4 (Nat.le_refl _)
     generalize col s0 4=s1 at *
     go_wp2_with fail
     rw[show ((4:Nat):Int)=4 from rfl]
     generalize wr=wo2 at *
     go_loopg [5] 4 (fun m i v=>∃ j:Nat,Hid (m+j=4)∧i=.int .i64 j∧RowAt v b' .i64 3 16 (dia s1 j)∧Below w.heap.size w v)
     case atStart=>exact ⟨0,Hid.mk rfl,rfl,hR,hB⟩
     case round =>
      clear hR hB
      obtain ⟨j,HJ,rfl,hR,hB⟩:=hrel
      have hj4:j≤4:=by have:=HJ.out;omega
      by_cases hjl:j<4
      ·have t1:((j:Int)+1).tmod 4=(((j+1)%4:Nat):Int):=tmod4 j 1
       have t2:((j:Int)+2).tmod 4=(((j+2)%4:Nat):Int):=tmod4 j 2
       have t3:((j:Int)+3).tmod 4=(((j+3)%4:Nat):Int):=tmod4 j 3
       have hr:=rquarter_run b' 16 cp' (dia s1 j) j (4+(j+1)%4) (8+(j+2)%4) (12+(j+3)%4) wr hR (dia_w W1 j hj4) (by omega) (by omega) (by omega) (by omega) (by omega) (by omega) (by omega) (by omega) (by omega) (by omega)
       have HR:Hid (∀ v,RowAt v b' .i64 3 16 (qrow (dia s1 j) j (4+(j+1)%4) (8+(j+2)%4) (12+(j+3)%4))→RowAt v b' .i64 3 16 (dia s1 (j+1))):=Hid.mk (fun _ h=>h)
       have m1:(j+1)%4<4:=by omega
       have m2:(j+2)%4<4:=by omega
       have m3:(j+3)%4<4:=by omega
       generalize (j+1)%4=x1 at *
       generalize (j+2)%4=x2 at *
       generalize (j+3)%4=x3 at *
       go_wp2_with fail
       refine hr.mono ?_
       rintro e v2 ⟨rfl,hR2,hT⟩
       replace hB:=hB.trans (below_touch hT hbb hB.size)
       clear hT hR hr
       replace hR2:=HR.out _ hR2
       go_wp2_with fail
       go_roundg (4-(j+1))
       case rel=>exact ⟨j+1,Hid.mk (by omega),by go_num,hR2,hB⟩
       case measure=>have:=HJ.out;omega
      ·have hj2:j=4:=by omega
       subst hj2
       clear hjl hj4 HJ
       rw[HN.out] at hR
       go_wp2_with fail
       go_roundg (10-(k+1))
       case rel=>exact ⟨k+1,Hid.mk (by omega),by go_num,hR,hB⟩
       case measure=>have:=HK.out;omega
  ·have hk2:k=10:=by omega
   subst hk2
   go_wp2_with fail
   go_ret
   exact ⟨b',cp',rfl,hcp,hbb,hR,hB⟩
def pw (f:Nat→Int):Nat→Nat→Int
 | 0=>fun _=>0
 | k+1=>putw (pw f k) k (f k)
theorem pw_byts (f:Nat→Int) (n:Nat):∀ k,Byts n (pw f k)
 | 0=>fun i _=>by simp[pw]
 | k+1=>putw_byts (pw_byts f n k)
theorem pw_congr {f g:Nat→Int}:∀ {k:Nat},(∀ i,i<k→f i=g i)→pw f k=pw g k
 | 0,_=>rfl
 | k+1,h=>by unfold pw;rw[pw_congr (fun i hi=>h i (by omega)),h k (by omega)]
def bsum (s:Nat→Int) (i:Nat):Int:=addw (rnds s 10 i) (s i)
def blk (s:Nat→Int):Nat→Int:=pw (bsum s) 16
theorem sl64 (b:Nat) (w:World):(Instr.sliceAt 183 (.pointer (some ⟨b,0,none⟩)) none none none).run Tryz.prog w=.ok (.slice (some ⟨b,0,none⟩) 64 64) w:=by simp[go_sem]
theorem sl32 (b:Nat) (w:World):(Instr.sliceAt 22 (.pointer (some ⟨b,0,none⟩)) none none none).run Tryz.prog w=.ok (.slice (some ⟨b,0,none⟩) 32 32) w:=by simp[go_sem]
theorem undSq:Tryz.prog.underlying 207=some (.array (Tryz.prog.arrayLen 207) (Tryz.prog.elem 207)):=Tryz.underlying207
theorem lenSq:Tryz.prog.arrayLen 207=16:=by kernel_rfl
theorem sizeSq (w:World):(sizeOf (Tryz.prog.elem 207)).run Tryz.prog w=.ok 1 w:=by kernel_rfl
theorem enterPut (args:Array Value) (w:World):(callFunc 202 args).run Tryz.prog w=.ok (.enter 202 args) w:=by kernel_rfl
theorem block_run (s:Nat→Int) (w:World) (hs:∀ i,i<16→W32 (s i)) :
  Calls Tryz.prog 184 #[.agg (WA .u32 16 s)] w fun e w'=>e=.returned (.agg (WA .u8 64 (blk s)))∧Below w.heap.size w w':=by
 have g0:ArrAt ((w.alloc (.cells (WA .u32 16 s) 207)).alloc (.cells (WA .u8 64 fun _=>0) 183)) w.heap.size .u32 207 16 s:=heap_alloc2_old w _ _
 have g1:ArrAt ((w.alloc (.cells (WA .u32 16 s) 207)).alloc (.cells (WA .u8 64 fun _=>0) 183)) (w.heap.size+1) .u8 183 64 (fun _=>0):=heap_alloc2_new w _ _
 have hB:Below w.heap.size w ((w.alloc (.cells (WA .u32 16 s) 207)).alloc (.cells (WA .u8 64 fun _=>0) 183)):=((Below.refl _ w).alloc (by simp) _).alloc (by simp) _
 go_enter Tryz.func184,Tryz.ntmps184
 go_wp2_with (first|(refine ld_arr isSq g0 (by rfl) ?_))
 refine (rounds_run s _ hs).mono ?_
 rintro e v1 ⟨rfl,hb⟩
 replace g0:=g0.kept hb
 replace g1:=g1.kept hb
 replace hB:=hB.trans (hb.mono hB.size)
 clear hb
 have W1:=rnds_w hs 10
 have HE:Hid (∀ i,addw (rnds s 10 i) (s i)=bsum s i):=Hid.mk (fun _=>rfl)
 have HP:Hid (pw (bsum s) 16=blk s):=Hid.mk rfl
 generalize rnds s 10=r at *
 go_wp2_with (first|(refine st_arr (s':=fun _=>0) (k':=.u32) isSq (heap_alloc_new v1 _) (by rfl) (by rfl) ?_;intro v2 g3 o3;refine Hid.out ?_))
 have hs1:=g1.lt
 replace g0:=(g0.alloc _).only o3 (Nat.ne_of_lt g0.lt)
 replace g1:=(g1.alloc _).only o3 (Nat.ne_of_lt g1.lt)
 replace hB:=(hB.alloc hB.size _).trans (o3.below hB.size)
 clear o3
 generalize v1.heap.size=B3 at *
 refine Hid.mk ?_
 go_wp2_with fail
 have g4:ArrAt (v2.alloc (.cells (WA .u8 64 fun _=>0) 183)) v2.heap.size .u8 183 64 (pw (bsum s) 0):=heap_alloc_new v2 _
 have hs2:=g3.lt
 go_loopg [8] 16 (fun m i v=>∃ k:Nat,Hid (m+k=16)∧i=.int .i64 k∧ArrAt v w.heap.size .u32 207 16 s∧ArrAt v (w.heap.size+1) .u8 183 64 (fun _=>0)∧ArrAt v B3 .u32 207 16 r∧ArrAt v v2.heap.size .u8 183 64 (pw (bsum s) k)∧Below w.heap.size w v)
 case atStart=>exact ⟨0,Hid.mk rfl,rfl,g0.alloc _,g1.alloc _,g3.alloc _,g4,hB.alloc hB.size _⟩
 case round =>
  clear g0 g1 g3 g4 hB
  obtain ⟨k,HK,rfl,g0,g1,g3,g4,hB⟩:=hrel
  generalize v2.heap.size=B4 at *
  have hk16:k≤16:=by have:=HK.out;omega
  by_cases hlt:k<16
  ·go_wp2_with fail
   refine wp_region3 (Below w.heap.size w) wr.heap.size
    [(B3,fixd (WA .u32 16 r) 207),(w.heap.size,fixd (WA .u32 16 s) 207),(B4,once (WA .u8 64 (pw (bsum s) k)) 183 9 (WA .u8 64 (pw (bsum s) (k+1)))),((w.heap.size+1),fixd (WA .u8 64 (fun _=>0)) 183)]
    [kv (.slice (some ⟨B4,0,none⟩) 64 64),kv (.int .i64 (k:Int)),kv (.int .i64 (k:Int)),kv (.pointer (some ⟨B3,k,none⟩)),kv (.int .u32 (r k)),kv (.int .i64 (k:Int)),kv (.pointer (some ⟨w.heap.size,k,none⟩)),kv (.int .u32 (s k)),kv (.int .u32 (bsum s k)),kv (.tuple #[])]
    [.none,.none,.none,.none,.none,.none,.none,.none,.none,.base 2 1]
    [some 11,some 12,some 13,some 14,some 15,some 16,some 17,some 18,some 19,some 20]
    [(1,.pointer (some ⟨w.heap.size,0,none⟩)),(3,.pointer (some ⟨B3,0,none⟩)),(4,.pointer (some ⟨B4,0,none⟩)),(5,.int .i64 (k:Int))]
    [[],[],[],[.slot 2],[.slot 3,.base 0 0],[],[.slot 5],[.slot 6,.base 1 0],[.slot 4,.slot 7],[.slot 0,.slot 1,.slot 8,.base 2 0]]
    [.base 0 0,.base 1 0,.base 2 1,.base 3 0] [11,12,13,14,15,16,17,18,19,20]
    rfl (by kernel_rfl) ⟨rfl,rfl,rfl,rfl,trivial⟩ (Below.drew hB) (Nat.le_refl _) ⟨⟨g3.lt,obIn g3⟩,⟨g0.lt,obIn g0⟩,⟨g4.lt,obIn g4⟩,⟨g1.lt,obIn g1⟩,trivial⟩ ⟨⟨trivial,(show (B3:Nat)≠B4 from by omega),trivial,trivial⟩,⟨(show (w.heap.size:Nat)≠B4 from by omega),trivial,trivial⟩,⟨(show (B4:Nat)≠(w.heap.size+1) from by omega),trivial⟩,trivial,trivial⟩ (below_G hB.size ⟨by omega,by omega,by omega,by omega,trivial⟩)
    ⟨
     (fun _ _ _ _ _ _ fr _=>sV (exec_sl rfl fr.2.2.1 (sl64 _ _))),
     (fun _ _ _ _ _ _ fr _=>sV (exec_move rfl fr.2.2.2.1)),
     (fun _ _ _ _ _ _ fr _=>sV (exec_move rfl fr.2.2.2.1)),
     (fun _ _ _ _ _ _ fr kn=>sV (exec_idxA rfl undSq lenSq sizeSq fr.2.1 kn.1 hlt)),
     (fun _ _ _ _ _ _ _ kn=>sV (exec_ld rfl kn.1 (run_load32 (ArrAt.cell (obAt kn.2.1) k hlt)))),
     (fun _ _ _ _ _ _ fr _=>sV (exec_move rfl fr.2.2.2.1)),
     (fun _ _ _ _ _ _ fr kn=>sV (exec_idxA rfl undSq lenSq sizeSq fr.1 kn.1 hlt)),
     (fun _ _ _ _ _ _ _ kn=>sV (exec_ld rfl kn.1 (run_load32 (ArrAt.cell (obAt kn.2.1) k hlt)))),
     (fun _ _ _ _ _ _ _ kn=>.inl ⟨trivial,fun K hK=>wp_value (exec_add32 rfl kn.1 kn.2.1) (hK _ _ ⟨Touch.refl _ _,congrArg (Value.int .u32) (HE.out k)⟩)⟩),
     (fun _ _ ww _ _ _ _ kn=>.inl ⟨trivial,fun K hK=>stepp enterPut rfl (args3 kn.1 kn.2.1 kn.2.2.1) ((putWord_arr B4 64 (pw (bsum s) k) k (bsum s k) ww (obAt kn.2.2.2.1) (by rw[← HE.out k];exact addw_w _ _) (by omega) (by omega)).mono (fun e w' ⟨he,h1,h2⟩=>⟨_,he,rfl,h1,h2⟩)) (R:=fun u w'=>u=.tuple #[]∧ArrAt w' B4 .u8 _ 64 (putw (pw (bsum s) k) k (bsum s k))∧Only B4 ww w') (fun v w' ⟨hv,h1,h2⟩=>hK _ _ ⟨⟨touch_only h2,obIn h1⟩,hv⟩)⟩),
     trivial⟩ ?_
   intro vs own v5 hB5 hs5 kn inj
   clear inj
   have G3:=obAt kn.1
   have G0:=obAt kn.2.1
   have G4:=obAt kn.2.2.1
   have G1:ArrAt v5 (w.heap.size+1) .u8 183 64 (fun _=>0):=obAt kn.2.2.2.1
   simp only[putAll,Act.put,List.setIfInBounds_toArray,List.set_cons_zero,List.set_cons_succ]
   go_wp2_with fail
   go_roundg (16-(k+1))
   case rel=>exact ⟨k+1,Hid.mk (by omega),by go_num,G0,G1,G3,G4,hB5⟩
   case measure=>have:=HK.out;omega
  ·have hk2:k=16:=by omega
   subst hk2
   clear hlt hk16 HK
   rw[HP.out] at g4
   go_wp2_with (first|(refine ld_arr isArr64 g4 (by rfl) ?_)|(refine st_arr isArr64 g1 (by rfl) (by rfl) ?_;intro v4 g5 o5))
   exact bodyPost_ret (v:=.agg (WA .u8 64 (blk s))) (res_arr rfl isArr64 g5 rfl) rfl ⟨rfl,hB.trans (o5.below (by omega))⟩
theorem lets_w (i:Nat) (h:i<4):W32 (wrd lets i):=wrd_w lets_byts (by omega)
theorem ksq_w {key:Nat→Int} (hk:Byts 32 key) (n:Nat):∀ i,i<12→W32 (ksq key n i):=fun i hi=>by
 unfold ksq
 split
 ·split
  ·exact lets_w i (by assumption)
  ·exact wrd_w hk (by omega)
 ·unfold W32;omega
theorem ssq_w {key nonce:Nat→Int} {c:Int} (hk:Byts 32 key) (hn:Byts 12 nonce) (hc:W32 c):∀ i,i<16→W32 (ssq key c nonce 3 i):=fun i hi=>by
 unfold ssq
 split
 ·exact hc
 ·split
  ·exact wrd_w hn (by omega)
  ·exact ksq_w hk 12 i (by omega)
theorem Block_run (key nonce:Nat→Int) (c:Int) (w:World) (hk:Byts 32 key) (hn:Byts 12 nonce) (hc:W32 c) :
  Calls Tryz.prog 212 #[.agg (WA .u8 32 key),.int .u32 c,.agg (WA .u8 12 nonce)] w fun e w'=>e=.returned (.agg (WA .u8 64 (blk (ssq key c nonce 3))))∧Below w.heap.size w w':=by
 have g0:ArrAt (((w.alloc (.cells (WA .u8 32 key) 22)).alloc (.cells (WA .u8 12 nonce) 26)).alloc (.cells (WA .u8 64 fun _=>0) 183)) w.heap.size .u8 22 32 key:=heap_a31 w _ _ _
 have g1:ArrAt (((w.alloc (.cells (WA .u8 32 key) 22)).alloc (.cells (WA .u8 12 nonce) 26)).alloc (.cells (WA .u8 64 fun _=>0) 183)) (w.heap.size+1) .u8 26 12 nonce:=heap_a32 w _ _ _
 have g2:ArrAt (((w.alloc (.cells (WA .u8 32 key) 22)).alloc (.cells (WA .u8 12 nonce) 26)).alloc (.cells (WA .u8 64 fun _=>0) 183)) (w.heap.size+1+1) .u8 183 64 (fun _=>0):=heap_a3 w _ _ _
 have hB:Below w.heap.size w (((w.alloc (.cells (WA .u8 32 key) 22)).alloc (.cells (WA .u8 12 nonce) 26)).alloc (.cells (WA .u8 64 fun _=>0) 183)):=(((Below.refl _ w).alloc (by simp) _).alloc (by simp) _).alloc (by simp;omega) _
 have hS:=fun w=>streamSquare_run key nonce c w hk hn
 have hw:=ssq_w hk hn hc
 generalize ssq key c nonce 3=sq at *
 go_enter Tryz.func212,Tryz.ntmps212
 go_wp2_with (first|(refine ld_arr isArr32 g0 (by rfl) ?_)|(refine ld_arr isArr12 g1 (by rfl) ?_))
 refine (hS _).mono ?_
 rintro e v1 ⟨rfl,hb⟩
 replace g2:=g2.kept hb
 replace hB:=hB.trans (hb.mono hB.size)
 clear hb g0 g1
 go_wp2_with fail
 refine (block_run sq _ hw).mono ?_
 rintro e v2 ⟨rfl,hb⟩
 replace g2:=g2.kept hb
 replace hB:=hB.trans (hb.mono hB.size)
 clear hb
 go_wp2_with (first|(refine st_arr isArr64 g2 (by rfl) (by rfl) ?_;intro v4 g5 o5))
 exact bodyPost_ret (v:=.agg (WA .u8 64 (blk sq))) (res_arr rfl isArr64 g5 rfl) rfl ⟨rfl,hB.trans (o5.below (by omega))⟩
theorem over_putw (s:Nat→Int) (k:Nat) (v:Int):over s (4*k) 4 (b4 v)=putw s k v:=by
 funext i
 unfold over putw upd b4
 by_cases h0:i=4*k
 ·subst h0;simp
 by_cases h1:i=4*k+1
 ·subst h1;simp
 by_cases h2:i=4*k+2
 ·subst h2;simp
 by_cases h3:i=4*k+3
 ·subst h3;simp
 rw[if_neg (by omega),if_neg h3,if_neg h2,if_neg h1,if_neg h0]
theorem len32:Tryz.prog.arrayLen 22=32:=by kernel_rfl
theorem sizeB32 (w:World):(sizeOf (Tryz.prog.elem 22)).run Tryz.prog w=.ok 1 w:=by kernel_rfl
theorem sl64L (b k:Nat) (w:World) (hk:k<16):(Instr.sliceAt 183 (.pointer (some ⟨b,0,none⟩)) (some (.int .i64 (4*(k:Int)))) none none).run Tryz.prog w=.ok (.slice (some ⟨b,4*k,none⟩) (64-4*k) (64-4*k)) w :=
 slArrL Tryz.underlying183 len64 sizeB64 b (4*k) w (by omega)
theorem sl32L (b l:Nat) (w:World) (hl:l<32):(Instr.sliceAt 22 (.pointer (some ⟨b,0,none⟩)) (some (.int .i64 (l:Int))) none none).run Tryz.prog w=.ok (.slice (some ⟨b,l,none⟩) (32-l) (32-l)) w :=
 slArrL Tryz.underlying22 len32 sizeB32 b l w hl
theorem sl16 (b:Nat) (w:World):(Instr.sliceAt 54 (.pointer (some ⟨b,0,none⟩)) none none none).run Tryz.prog w=.ok (.slice (some ⟨b,0,none⟩) 16 16) w:=by simp[go_sem]
theorem sl12 (b:Nat) (w:World):(Instr.sliceAt 26 (.pointer (some ⟨b,0,none⟩)) none none none).run Tryz.prog w=.ok (.slice (some ⟨b,0,none⟩) 12 12) w:=by simp[go_sem]
theorem sl16L (b:Nat) (w:World):(Instr.sliceAt 54 (.pointer (some ⟨b,0,none⟩)) (some (.int .i64 4)) none none).run Tryz.prog w=.ok (.slice (some ⟨b,4,none⟩) 12 12) w:=by simp[go_sem]
theorem enterBytes (args:Array Value) (w:World):(callFunc 179 args).run Tryz.prog w=.ok (.enter 179 args) w:=by kernel_rfl
end Go.Proofs.YthghcjepdhkfdaaGreatDoor
