/-
  Own text. What block and Block of package chacha give.
-/
import Derived.Test.YthghcjepdhkfdaaGreatDoorJB5
import Derived.Laws.CopyOwn
import Derived.Shelf.Strings.Builder1
import Derived.Shelf.Strings.Builder2
import Derived.Test.YthghcjepdhkfdaaGreatDoorProg
import Derived.Laws.IdiomStrings
import Derived.Laws.AppendOwnNone
import Derived.Test.YthghcjepdhkfdaaGreatDoorJB1
import Derived.Test.YthghcjepdhkfdaaGreatDoorJB3
set_option maxHeartbeats 16000000
set_option maxRecDepth 100000
open Int renaming tdiv_eq_ediv_of_nonneg→Ac8,tmod_eq_emod_of_nonneg→Acz,toNat_natCast→AcB
open List renaming setIfInBounds_toArray→Aci,set_cons_succ→Ach,set_cons_zero→Acj
open Nat renaming add_sub_cancel_left→Ac0,le_refl→Acg,le_trans→Acp,lt_of_lt_of_le→AcH,ne_of_lt→Ack,zero_add→Acl
namespace Go.Proofs.YthghcjepdhkfdaaGreatDoor
open Go.RowKit Go.Proofs
open Tryz
def pw(f:Nat→Int):Nat→Nat→Int
 | 0=>fun _=>0
 | k+1=>NJ (pw f k) k (f k)
theorem RE(f:Nat→Int)(n:Nat):∀k,Byts n (pw f k)
 | 0=>fun i _=>by simp[pw]
 | k+1=>Tu (RE f n k)
theorem OO{f g:Nat→Int}:∀{k:Nat},(∀i,i<k→f i=g i)→pw f k=pw g k
 | 0,_=>rfl
 | k+1,h=>by unfold pw;rw[OO (fun i hi=>h i (by omega)),h k (by omega)]
def DN(s:Nat→Int)(i:Nat):Int:=Bb (Fo s 10 i) (s i)
def blk(s:Nat→Int):Nat→Int:=pw (DN s) 16
theorem AbS(b:Nat)(w:World):(Instr.sliceAt 183 (.pointer (some ⟨b,0,none⟩)) none none none).run prog w=.ok (.slice (some ⟨b,0,none⟩) 64 64) w:=by simp[go_sem]
theorem ZK:Tryz.prog.underlying 207=some (.array (Tryz.prog.arrayLen 207) (Tryz.prog.elem 207)):=underlying207
theorem ZL:Tryz.prog.arrayLen 207=16:=by kernel_rfl
theorem VK(w:World):(sizeOf (Tryz.prog.elem 207)).run prog w=.ok 1 w:=by kernel_rfl
theorem VL(args:Array Value)(w:World):(callFunc 202 args).run prog w=.ok (.enter 202 args) w:=by kernel_rfl
theorem MO(s:Nat→Int)(w:World)(hs:∀i,i<16→W32 (s i)):Calls prog 184 #[.agg (WA .u32 16 s)] w fun e w'=>e=.returned (.agg (WA .u8 64 (blk s)))∧Below w.heap.size w w':=by
 have g0:ArrAt ((w.alloc (.cells (WA .u32 16 s) 207)).alloc (.cells (WA .u8 64 fun _=>0) 183)) w.heap.size .u32 207 16 s:=heap_alloc2_old w _ _;have g1:ArrAt ((w.alloc (.cells (WA .u32 16 s) 207)).alloc (.cells (WA .u8 64 fun _=>0) 183)) (w.heap.size+1) .u8 183 64 (fun _=>0):=heap_alloc2_new w _ _;have hB:Below w.heap.size w ((w.alloc (.cells (WA .u32 16 s) 207)).alloc (.cells (WA .u8 64 fun _=>0) 183)):=((Below.refl _ w).alloc (by simp) _).alloc (by simp) _;go_enter func184,ntmps184
 go_wp2_with (first|(refine Aq GD g0 (by rfl) ?_))
 refine(Ql s _ hs).mono ?_;rintro e v1 ⟨rfl,hb⟩;replace g0:=g0.kept hb;replace g1:=g1.kept hb;replace hB:=hB.trans (hb.mono hB.size);clear hb;have W1:=La hs 10;have HE:Hid (∀i,Bb (Fo s 10 i) (s i)=DN s i):=Hid.mk (fun _=>rfl);have HP:Hid (pw (DN s) 16=blk s):=Hid.mk rfl;generalize Fo s 10=r at *
 go_wp2_with (first|(refine A1 (s':=fun _=>0) (k':=.u32) GD (heap_alloc_new v1 _) (by rfl) (by rfl) ?_;intro v2 g3 o3;refine Hid.out ?_))
 have hs1:=g1.lt;replace g0:=(g0.alloc _).only o3 (Ack g0.lt);replace g1:=(g1.alloc _).only o3 (Ack g1.lt);replace hB:=(hB.alloc hB.size _).trans (o3.below hB.size);clear o3;generalize v1.heap.size=B3 at *;refine Hid.mk ?_;go_wp2_with fail;have g4:ArrAt (v2.alloc (.cells (WA .u8 64 fun _=>0) 183)) v2.heap.size .u8 183 64 (pw (DN s) 0):=heap_alloc_new v2 _;have hs2:=g3.lt
 go_loopg [8] 16 (fun m i v=>∃k:Nat,Hid (m+k=16)∧i=.int .i64 k∧ArrAt v w.heap.size .u32 207 16 s∧ArrAt v (w.heap.size+1) .u8 183 64 (fun _=>0)∧ArrAt v B3 .u32 207 16 r∧ArrAt v v2.heap.size .u8 183 64 (pw (DN s) k)∧Below w.heap.size w v)
 case atStart=>exact⟨0,Hid.mk rfl,rfl,g0.alloc _,g1.alloc _,g3.alloc _,g4,hB.alloc hB.size _⟩
 case round =>
  clear g0 g1 g3 g4 hB;obtain⟨k,HK,rfl,g0,g1,g3,g4,hB⟩:=hrel;generalize v2.heap.size=B4 at *;have hk16:k≤16:=by have:=HK.out;omega
  by_cases hlt:k<16
  ·go_wp2_with fail
   refine Ai (Below w.heap.size w) wr.heap.size
    [(B3,AQ (WA .u32 16 r) 207),(w.heap.size,AQ (WA .u32 16 s) 207),(B4,once (WA .u8 64 (pw (DN s) k)) 183 9 (WA .u8 64 (pw (DN s) (k+1)))),((w.heap.size+1),AQ (WA .u8 64 (fun _=>0)) 183)]
    [kv (.slice (some ⟨B4,0,none⟩) 64 64),kv (.int .i64 (k:Int)),kv (.int .i64 (k:Int)),kv (.pointer (some ⟨B3,k,none⟩)),kv (.int .u32 (r k)),kv (.int .i64 (k:Int)),kv (.pointer (some ⟨w.heap.size,k,none⟩)),kv (.int .u32 (s k)),kv (.int .u32 (DN s k)),kv (.tuple #[])]
    [.none,.none,.none,.none,.none,.none,.none,.none,.none,.base 2 1]
    [some 11,some 12,some 13,some 14,some 15,some 16,some 17,some 18,some 19,some 20]
    [(1,.pointer (some ⟨w.heap.size,0,none⟩)),(3,.pointer (some ⟨B3,0,none⟩)),(4,.pointer (some ⟨B4,0,none⟩)),(5,.int .i64 (k:Int))]
    [[],[],[],[.slot 2],[.slot 3,.base 0 0],[],[.slot 5],[.slot 6,.base 1 0],[.slot 4,.slot 7],[.slot 0,.slot 1,.slot 8,.base 2 0]]
    [.base 0 0,.base 1 0,.base 2 1,.base 3 0] [11,12,13,14,15,16,17,18,19,20]
    rfl (by kernel_rfl) ⟨rfl,rfl,rfl,rfl,trivial⟩ (Below.drew hB) (Acg _) ⟨⟨g3.lt,Al g3⟩,⟨g0.lt,Al g0⟩,⟨g4.lt,Al g4⟩,⟨g1.lt,Al g1⟩,trivial⟩ ⟨⟨trivial,(show (B3:Nat)≠B4 from by omega),trivial,trivial⟩,⟨(show (w.heap.size:Nat)≠B4 from by omega),trivial,trivial⟩,⟨(show (B4:Nat)≠(w.heap.size+1) from by omega),trivial⟩,trivial,trivial⟩ (A8 hB.size ⟨by omega,by omega,by omega,by omega,trivial⟩)
    ⟨
     sL fun f _=>sV (Ci rfl f.2.2.1 (AbS _ _)),
     sL fun f _=>sV (Ab rfl f.2.2.2.1),
     sL fun f _=>sV (Ab rfl f.2.2.2.1),
     sL fun f k=>sV (Ev rfl ZK ZL VK f.2.1 k.1 hlt),
     sL fun _ kn=>sV (At rfl kn.1 (EE (ArrAt.cell (Ak kn.2.1) k hlt))),
     sL fun f _=>sV (Ab rfl f.2.2.2.1),
     sL fun f k=>sV (Ev rfl ZK ZL VK f.1 k.1 hlt),
     sL fun _ kn=>sV (At rfl kn.1 (EE (ArrAt.cell (Ak kn.2.1) k hlt))),
     sL fun _ kn=>.inl ⟨trivial,fun K hK=>AX (PO rfl kn.1 kn.2.1) (hK _ _ ⟨Touch.refl _ _,congrArg (Value.int .u32) (HE.out k)⟩)⟩,
     (fun _ _ ww _ _ _ _ kn=>.inl ⟨trivial,fun K hK=>KC VL rfl (Gu kn.1 kn.2.1 kn.2.2.1) ((OL B4 64 (pw (DN s) k) k (DN s k) ww (Ak kn.2.2.2.1) (by rw[←HE.out k];exact BG _ _) (by omega) (by omega)).mono (fun e w' ⟨he,h1,h2⟩=>⟨_,he,rfl,h1,h2⟩)) (R:=fun u w'=>u=.tuple #[]∧ArrAt w' B4 .u8 _ 64 (NJ (pw (DN s) k) k (DN s k))∧Only B4 ww w') (fun v w' ⟨hv,h1,h2⟩=>hK _ _ ⟨⟨Ag h2,Al h1⟩,hv⟩)⟩),
     trivial⟩ ?_
   intro vs own v5 hB5 hs5 kn inj;clear inj;have G3:=Ak kn.1;have G0:=Ak kn.2.1;have G4:=Ak kn.2.2.1;have G1:ArrAt v5 (w.heap.size+1) .u8 183 64 (fun _=>0):=Ak kn.2.2.2.1;simp only[Am,Act.put,Aci,Acj,Ach];go_wp2_with fail
   go_roundg (16-(k+1))
   case rel=>exact⟨k+1,Hid.mk (by omega),by go_num,G0,G1,G3,G4,hB5⟩
   case measure=>have:=HK.out;omega
  ·have hk2:k=16:=by omega
   subst hk2;clear hlt hk16 HK;rw[HP.out] at g4
   go_wp2_with (first|(refine Aq Du g4 (by rfl) ?_)|(refine A1 Du g1 (by rfl) (by rfl) ?_;intro v4 g5 o5))
   exact bodyPost_ret (v:=.agg (WA .u8 64 (blk s))) (AE rfl Du g5 rfl) rfl ⟨rfl,hB.trans (o5.below (by omega))⟩
theorem Aal(i:Nat)(h:i<4):W32 (wrd GE i):=RC J8 (by omega)
theorem Abm{key:Nat→Int}(hk:Byts 32 key)(n:Nat):∀i,i<12→W32 (ksq key n i):=fun i hi=>by
 unfold ksq
 split
 ·split
  ·exact Aal i (by assumption)
  ·exact RC hk (by omega)
 ·unfold W32;omega
theorem ZM{key nonce:Nat→Int}{c:Int}(hk:Byts 32 key)(hn:Byts 12 nonce)(hc:W32 c):∀i,i<16→W32 (ssq key c nonce 3 i):=fun i hi=>by
 unfold ssq
 split
 ·exact hc
 ·split
  ·exact RC hn (by omega)
  ·exact Abm hk 12 i (by omega)
theorem Tx(key nonce:Nat→Int)(c:Int)(w:World)(hk:Byts 32 key)(hn:Byts 12 nonce)(hc:W32 c):Calls prog 212 #[.agg (WA .u8 32 key),.int .u32 c,.agg (WA .u8 12 nonce)] w fun e w'=>e=.returned (.agg (WA .u8 64 (blk (ssq key c nonce 3))))∧Below w.heap.size w w':=by
 have g0:ArrAt (((w.alloc (.cells (WA .u8 32 key) 22)).alloc (.cells (WA .u8 12 nonce) 26)).alloc (.cells (WA .u8 64 fun _=>0) 183)) w.heap.size .u8 22 32 key:=A6 w _ _ _;have g1:ArrAt (((w.alloc (.cells (WA .u8 32 key) 22)).alloc (.cells (WA .u8 12 nonce) 26)).alloc (.cells (WA .u8 64 fun _=>0) 183)) (w.heap.size+1) .u8 26 12 nonce:=AB w _ _ _;have g2:ArrAt (((w.alloc (.cells (WA .u8 32 key) 22)).alloc (.cells (WA .u8 12 nonce) 26)).alloc (.cells (WA .u8 64 fun _=>0) 183)) (w.heap.size+1+1) .u8 183 64 (fun _=>0):=AK w _ _ _;have hB:Below w.heap.size w (((w.alloc (.cells (WA .u8 32 key) 22)).alloc (.cells (WA .u8 12 nonce) 26)).alloc (.cells (WA .u8 64 fun _=>0) 183)):=(((Below.refl _ w).alloc (by simp) _).alloc (by simp) _).alloc (by simp;omega) _;have hS:=fun w=>Fy key nonce c w hk hn
 have hw:=ZM hk hn hc;generalize ssq key c nonce 3=sq at *;go_enter func212,ntmps212
 go_wp2_with (first|(refine Aq Af g0 (by rfl) ?_)|(refine Aq Ax g1 (by rfl) ?_))
 refine(hS _).mono ?_;rintro e v1 ⟨rfl,hb⟩;replace g2:=g2.kept hb;replace hB:=hB.trans (hb.mono hB.size);clear hb g0 g1;go_wp2_with fail;refine(MO sq _ hw).mono ?_;rintro e v2 ⟨rfl,hb⟩;replace g2:=g2.kept hb;replace hB:=hB.trans (hb.mono hB.size);clear hb
 go_wp2_with (first|(refine A1 Du g2 (by rfl) (by rfl) ?_;intro v4 g5 o5))
 exact bodyPost_ret (v:=.agg (WA .u8 64 (blk sq))) (AE rfl Du g5 rfl) rfl ⟨rfl,hB.trans (o5.below (by omega))⟩
theorem Ty(s:Nat→Int)(k:Nat)(v:Int):over s (4*k) 4 (b4 v)=NJ s k v:=by
 funext i
 unfold over NJ upd b4
 by_cases h0:i=4*k
 ·subst h0;simp
 by_cases h1:i=4*k+1
 ·subst h1;simp
 by_cases h2:i=4*k+2
 ·subst h2;simp
 by_cases h3:i=4*k+3
 ·subst h3;simp
 rw[if_neg (by omega),if_neg h3,if_neg h2,if_neg h1,if_neg h0]
theorem Abn(b k:Nat)(w:World)(hk:k<16):(Instr.sliceAt 183 (.pointer (some ⟨b,0,none⟩)) (some (.int .i64 (4*(k:Int)))) none none).run prog w=.ok (.slice (some ⟨b,4*k,none⟩) (64-4*k) (64-4*k)) w:=
 ZW underlying183 Hy FI b (4*k) w (by omega)
theorem AbT(b:Nat)(w:World):(Instr.sliceAt 54 (.pointer (some ⟨b,0,none⟩)) none none none).run prog w=.ok (.slice (some ⟨b,0,none⟩) 16 16) w:=by simp[go_sem]
theorem AbU(b:Nat)(w:World):(Instr.sliceAt 26 (.pointer (some ⟨b,0,none⟩)) none none none).run prog w=.ok (.slice (some ⟨b,0,none⟩) 12 12) w:=by simp[go_sem]
theorem Abo(b:Nat)(w:World):(Instr.sliceAt 54 (.pointer (some ⟨b,0,none⟩)) (some (.int .i64 4)) none none).run prog w=.ok (.slice (some ⟨b,4,none⟩) 12 12) w:=by simp[go_sem]
theorem Lb(args:Array Value)(w:World):(callFunc 179 args).run prog w=.ok (.enter 179 args) w:=by kernel_rfl
def inB(c:Int)(nonce:Nat→Int):Nat→Int:=over (over (fun _=>0) 0 4 (b4 c)) 4 12 nonce
theorem Y6(v:Int):∀i,0≤b4 v i∧b4 v i<256:=fun i=>by
 unfold b4
 split
 ·omega
 split
 ·omega
 split<;>omega
theorem VM{c:Int}{nonce:Nat→Int}(hn:Byts 12 nonce):Byts 16 (inB c nonce):=fun i hi=>by
 unfold inB over
 split
 ·exact hn _ (by omega)
 split
 ·exact Y6 _ _
 ·simp
theorem Fz{s t:Nat→Int}{i j:Nat}(h:∀q,q<4→s (4*i+q)=t (4*j+q)):wrd s i=wrd t j:=by
 unfold wrd;rw[show s (4*i)=t (4*j) from h 0 (by omega),h 1 (by omega),h 2 (by omega),h 3 (by omega)]
theorem Aam{c:Int}(hc:W32 c):wrd (b4 c) 0=c:=by
 unfold W32 at hc;simp[wrd,b4];omega
theorem Y7(key inn:Nat→Int)(i:Nat)(h:i<12):rsq key inn i=ksq key 12 i:=by
 unfold rsq ksq OM;rw[if_pos h]
 split
 ·exact Fz (fun q hq=>by unfold cat;rw[if_pos (by omega),if_pos (by omega)])
 ·refine Fz (fun q hq=>?_)
  unfold cat;rw[if_pos (by omega),if_neg (by omega)];congr 1;omega
theorem VN(key inn:Nat→Int)(i:Nat)(h:12≤i):rsq key inn i=wrd inn (i-12):=by
 unfold rsq OM;refine Fz (fun q hq=>?_);unfold cat;rw[if_neg (by omega)];congr 1;omega
theorem Y8(key nonce:Nat→Int)(c:Int)(hc:W32 c):∀i,i<16→rsq key (inB c nonce) i=ssq key c nonce 3 i:=fun i hi=>by
 unfold ssq
 by_cases h:i<12
 ·rw[Y7 _ _ _ h,if_neg (by omega),if_neg (by omega)]
 ·rw[VN _ _ _ (by omega)]
  by_cases h12:i=12
  ·subst h12
   rw[if_pos rfl];refine Eq.trans (Fz (fun q hq=>?_)) (Aam hc);unfold inB over;rw[if_neg (by omega),if_pos (by omega)];congr 1
  ·rw[if_neg h12,if_pos (by omega)]
   refine Fz (fun q hq=>?_);unfold inB over;rw[if_pos (by omega)];congr 1;omega
theorem Abp{key inn:Nat→Int}(hk:Byts 32 key)(hi:Byts 16 inn):∀i,i<16→W32 (rsq key inn i):=fun i h=>RC (MN hk hi) (by omega)
theorem Di{s t:Nat→Int}(h:∀i,i<16→s i=t i){a b c d:Nat}(ha:a<16)(hb:b<16)(hc:c<16)(hd:d<16):∀i,i<16→Dm s a b c d i=Dm t a b c d i:=fun i hi=>by
 unfold Dm upd;rw[h a ha,h b hb,h c hc,h d hd,h i hi]
theorem Tz{s t:Nat→Int}(h:∀i,i<16→s i=t i):∀i,i<16→dbl s i=dbl t i:=
 Di (Di (Di (Di (Di (Di (Di (Di h (by decide) (by decide) (by decide) (by decide)) (by decide) (by decide) (by decide) (by decide)) (by decide) (by decide) (by decide) (by decide)) (by decide) (by decide) (by decide) (by decide)) (by decide) (by decide) (by decide) (by decide)) (by decide) (by decide) (by decide) (by decide)) (by decide) (by decide) (by decide) (by decide)) (by decide) (by decide) (by decide) (by decide)
theorem Lc{s t:Nat→Int}(h:∀i,i<16→s i=t i):∀k i,i<16→Fo s k i=Fo t k i
 | 0=>h
 | k+1=>Tz (Lc h k)
theorem T4{s t:Nat→Int}(h:∀i,i<16→s i=t i):blk s=blk t:=OO (fun i hi=>by unfold DN;rw[Lc h 10 i hi,h i hi])
theorem Ld(key nonce:Nat→Int)(c:Int)(w:World)(hk:Byts 32 key)(hn:Byts 12 nonce)(hc:W32 c):Calls prog 161 #[.agg (WA .u8 32 key),.int .u32 c,.agg (WA .u8 12 nonce)] w fun e w'=>e=.returned (.agg (WA .u8 64 (blk (ssq key c nonce 3))))∧Below w.heap.size w w':=by
 have HP:Hid (blk (ssq key c nonce 3)=pw (DN (rsq key (inB c nonce))) 16):=Hid.mk (T4 (fun i hi=>(Y8 key nonce c hc i hi).symm));rw[HP.out];clear HP;have hI:=VM (c:=c) hn;have hW:=Abp hk hI;have hS:=fun w=>ON key (inB c nonce) w hk hI
 generalize rsq key (inB c nonce)=s at *;go_enter func161,ntmps161;go_wp2_with fail;have g0:ArrAt ((((w.alloc (.cells (WA .u8 32 key) 22)).alloc (.cells (WA .u8 12 nonce) 26)).alloc (.cells (WA .u8 64 fun _=>0) 183)).alloc (.cells (WA .u8 16 fun _=>0) 54)) w.heap.size .u8 22 32 key:=ArrAt.alloc (A6 w _ _ _) _;have g1:ArrAt ((((w.alloc (.cells (WA .u8 32 key) 22)).alloc (.cells (WA .u8 12 nonce) 26)).alloc (.cells (WA .u8 64 fun _=>0) 183)).alloc (.cells (WA .u8 16 fun _=>0) 54)) (w.heap.size+1) .u8 26 12 nonce:=ArrAt.alloc (AB w _ _ _) _;have g2:ArrAt ((((w.alloc (.cells (WA .u8 32 key) 22)).alloc (.cells (WA .u8 12 nonce) 26)).alloc (.cells (WA .u8 64 fun _=>0) 183)).alloc (.cells (WA .u8 16 fun _=>0) 54)) (w.heap.size+1+1) .u8 183 64 (fun _=>0):=ArrAt.alloc (AK w _ _ _) _;have g3:ArrAt ((((w.alloc (.cells (WA .u8 32 key) 22)).alloc (.cells (WA .u8 12 nonce) 26)).alloc (.cells (WA .u8 64 fun _=>0) 183)).alloc (.cells (WA .u8 16 fun _=>0) 54)) (w.heap.size+1+1+1) .u8 54 16 (fun _=>0):=GU w _ _ _ _;have hB:Below w.heap.size w ((((w.alloc (.cells (WA .u8 32 key) 22)).alloc (.cells (WA .u8 12 nonce) 26)).alloc (.cells (WA .u8 64 fun _=>0) 183)).alloc (.cells (WA .u8 16 fun _=>0) 54)):=((((Below.refl _ w).alloc (by simp) _).alloc (by simp) _).alloc (by simp;omega) _).alloc (by simp;omega) _;refine AJ (fun v=>ArrAt v w.heap.size .u8 22 32 key∧ArrAt v (w.heap.size+1) .u8 26 12 nonce∧ArrAt v (w.heap.size+1+1) .u8 183 64 (fun _=>0)∧ArrAt v (w.heap.size+1+1+1) .u8 54 16 (fun _=>0)∧Below w.heap.size w v) ⟨g0,g1,g2,g3,hB⟩ ?_;clear g0 g1 g2 g3 hB;rintro v0 ⟨g0,g1,g2,g3,hB⟩;refine Ai (Below w.heap.size w) v0.heap.size
  [(w.heap.size,AQ (WA .u8 32 key) 22),((w.heap.size+1),AQ (WA .u8 12 nonce) 26),((w.heap.size+1+1),AQ (WA .u8 64 (fun _=>0)) 183),((w.heap.size+1+1+1),once (WA .u8 16 (fun _=>0)) 54 4 (WA .u8 16 (over (fun _=>0) 0 4 (b4 c))))]
  [kv (.slice (some ⟨(w.heap.size+1+1+1),0,none⟩) 16 16),kv (.int .u32 c),kv (.int .i64 c),ks 4 (WA .u8 4 (b4 (c))) 5,.val fun _=>True]
  [.none,.none,.none,.none,.base 3 1]
  [some 12,some 13,some 14,some 15,some 16]
  [(1,.int .u32 c),(7,.pointer (some ⟨(w.heap.size+1+1+1),0,none⟩))]
  [[],[],[.slot 1],[.slot 2],[.slot 0,.slot 3,.cont 3 0,.base 3 0]]
  [.base 0 0,.base 1 0,.base 2 0,.base 3 1] [12,13,14,15,16]
  rfl (by kernel_rfl) ⟨rfl,rfl,trivial⟩ (Below.drew hB) (Acg _) ⟨⟨g0.lt,Al g0⟩,⟨g1.lt,Al g1⟩,⟨g2.lt,Al g2⟩,⟨g3.lt,Al g3⟩,trivial⟩ ⟨⟨trivial,trivial,(show (w.heap.size:Nat)≠(w.heap.size+1+1+1) from by omega),trivial⟩,⟨trivial,(show ((w.heap.size+1):Nat)≠(w.heap.size+1+1+1) from by omega),trivial⟩,⟨(show ((w.heap.size+1+1):Nat)≠(w.heap.size+1+1+1) from by omega),trivial⟩,trivial,trivial⟩ (A8 hB.size ⟨by omega,by omega,by omega,by omega,trivial⟩)
  ⟨
   sL fun f _=>sV (Ci rfl f.2.1 (AbT _ _)),
   sL fun f _=>sV (Ab rfl f.1),
   sL fun _ k=>sV (AF rfl k.1 (ZX hc _)),
   (fun _ _ ww _ _ _ _ kn=>.inl ⟨trivial,fun K hK=>KC Lb rfl (BI kn.1) ((KZ (c) ww hc).mono (fun e w' ⟨he,h1,h2⟩=>⟨_,he,rfl,h1,h2⟩)) (R:=fun u w'=>u=.slice (some ⟨ww.heap.size,0,none⟩) 4 4∧ArrAt w' ww.heap.size .u8 5 4 (b4 (c))∧Below ww.heap.size ww w') (fun v w' ⟨hv,h1,h2⟩=>hK _ _ ⟨Ac h2,ww.heap.size,Acg _,hv,Al h1⟩)⟩),
   sL fun _ k=>.inl ⟨trivial,fun K hK=>EH rfl k.1 k.2.1.1 (Ak k.2.2.2.1) (m:=4) rfl (by omega) (fun q hq=>by rw[Acl];exact ArrAt.cell (Ak k.2.2.1) q hq) (fun w2 hg ho=>hK _ _ ⟨⟨Ag ho,Al (hg)⟩,trivial⟩)⟩,
   trivial⟩ ?_
 intro vs own v1 hB1 hs1 kn inj;clear inj hs1 g0 g1 g2 g3 hB;have g0:=Ak kn.1;have g1:=Ak kn.2.1;have g2:=Ak kn.2.2.1;have g3:=Ak kn.2.2.2.1;clear kn;simp only[Am,Act.put,Aci,Acj,Ach];go_wp2_with fail;refine Ai (Below w.heap.size w) v1.heap.size
  [(w.heap.size,AQ (WA .u8 32 key) 22),((w.heap.size+1),AQ (WA .u8 12 nonce) 26),((w.heap.size+1+1),AQ (WA .u8 64 (fun _=>0)) 183),((w.heap.size+1+1+1),once (WA .u8 16 (over (fun _=>0) 0 4 (b4 c))) 54 2 (WA .u8 16 (inB c nonce)))]
  [kv (.slice (some ⟨(w.heap.size+1+1+1),4,none⟩) 12 12),kv (.slice (some ⟨(w.heap.size+1),0,none⟩) 12 12),.val fun _=>True]
  [.none,.none,.base 3 1]
  [some 17,some 18,some 19]
  [(5,.pointer (some ⟨(w.heap.size+1),0,none⟩)),(7,.pointer (some ⟨(w.heap.size+1+1+1),0,none⟩))]
  [[],[],[.slot 0,.slot 1,.base 3 0,.base 1 0]]
  [.base 0 0,.base 2 0,.base 3 1] [17,18,19]
  rfl (by kernel_rfl) ⟨rfl,rfl,trivial⟩ (Below.drew hB1) (Acg _) ⟨⟨Aa g0,Al g0⟩,⟨Aa g1,Al g1⟩,⟨Aa g2,Al g2⟩,⟨Aa g3,Al g3⟩,trivial⟩ ⟨⟨trivial,trivial,(show (w.heap.size:Nat)≠(w.heap.size+1+1+1) from by omega),trivial⟩,⟨trivial,(show ((w.heap.size+1):Nat)≠(w.heap.size+1+1+1) from by omega),trivial⟩,⟨(show ((w.heap.size+1+1):Nat)≠(w.heap.size+1+1+1) from by omega),trivial⟩,trivial,trivial⟩ (A8 hB1.size ⟨by omega,by omega,by omega,by omega,trivial⟩)
  ⟨
   sL fun f _=>sV (DC rfl f.2.1 rfl (Abo _ _)),
   sL fun f _=>sV (Ci rfl f.1 (AbU _ _)),
   sL fun _ k=>.inl ⟨trivial,fun K hK=>EH rfl k.1 k.2.1 (Ak k.2.2.1) (m:=12) rfl (by omega) (fun q hq=>by rw[Acl];exact ArrAt.cell (Ak k.2.2.2.1) q hq) (fun w2 hg ho=>hK _ _ ⟨⟨Ag ho,Al hg⟩,trivial⟩)⟩,
   trivial⟩ ?_
 intro vs2 own2 v2 hB2 hs2 kn inj;clear inj hs2 g0 g1 g2 g3 hB1;have g0:ArrAt v2 w.heap.size .u8 22 32 key:=Ak kn.1;have g2:ArrAt v2 (w.heap.size+1+1) .u8 183 64 (fun _=>0):=Ak kn.2.1;have g3:ArrAt v2 (w.heap.size+1+1+1) .u8 54 16 (inB c nonce):=Ak kn.2.2.1;clear kn;simp only[Am,Act.put,Aci,Acj,Ach]
 go_wp2_with (first|(refine Aq Af g0 (by rfl) ?_)|(refine Aq Ck g3 (by rfl) ?_))
 refine(hS _).mono ?_;rintro e v3 ⟨bs,cs,rfl,hcs,hbs,rs,hb3⟩;have hz2:=g2.lt;replace g2:=g2.kept hb3;replace hB2:=hB2.trans (hb3.mono hB2.size);have hz3:w.heap.size+1+1<bs:=by omega
 clear g0 g3 hb3 hS hI;go_wp2_with fail;refine(Qm s bs cs _ rs hW).mono ?_;rintro e v4 ⟨bt,ct,rfl,hct,hbt,rt,hb4⟩;replace g2:=g2.kept hb4;have hz4:bs<bt:=AcH rs.lt hbt;replace rs:=rs.below hb4 rs.lt;replace hB2:=hB2.trans (hb4.mono hB2.size);clear hb4;have HE:Hid (∀i,Bb (s i) (Fo s 10 i)=DN s i):=Hid.mk (fun i=>by unfold DN Bb;rw[Int.add_comm]);have W1:=La hW 10;generalize Fo s 10=t at *;go_wp2_with fail;have hz5:=rt.lt
 go_loopg [11] 16 (fun m i v=>∃k:Nat,Hid (m+k=16)∧i=.int .i64 k∧ArrAt v (w.heap.size+1+1) .u8 183 64 (fun _=>0)∧RowAt v bs .i64 3 16 s∧RowAt v bt .i64 3 16 t∧ArrAt v v4.heap.size .u8 183 64 (pw (DN s) k)∧Below w.heap.size w v)
 case atStart=>exact⟨0,Hid.mk rfl,rfl,g2.alloc _,rs.alloc _,rt.alloc _,heap_alloc_new v4 _,hB2.alloc hB2.size _⟩
 case round =>
  clear g2 rs rt hB2;obtain⟨k,HK,rfl,g2,rs,rt,g4,hB⟩:=hrel;generalize v4.heap.size=B4 at *;have hk16:k≤16:=by have:=HK.out;omega
  by_cases hlt:k<16
  ·go_wp2_with fail
   refine Ai (Below w.heap.size w) wr.heap.size
    [((w.heap.size+1+1),AQ (WA .u8 64 (fun _=>0)) 183),(bs,⟨B5 .i64 3 16 s,[]⟩),(bt,⟨B5 .i64 3 16 t,[]⟩),(B4,once (WA .u8 64 (pw (DN s) k)) 183 14 (WA .u8 64 (pw (DN s) (k+1))))]
    [kv (.int .i64 (k:Int)),kv (.int .i64 (4*(k:Int))),kv (.slice (some ⟨B4,4*k,none⟩) (64-4*k) (64-4*k)),kv (.slice (some ⟨bs,0,none⟩) 16 cs),kv (.int .i64 (k:Int)),kv (.pointer (some ⟨bs,0+k,none⟩)),kv (.int .i64 (s k)),kv (.slice (some ⟨bt,0,none⟩) 16 ct),kv (.int .i64 (k:Int)),kv (.pointer (some ⟨bt,0+k,none⟩)),kv (.int .i64 (t k)),kv (.int .i64 (s k+t k)),kv (.int .i64 (DN s k)),ks 4 (WA .u8 4 (b4 (DN s k))) 5,.val fun _=>True]
    [.none,.none,.none,.none,.none,.none,.none,.none,.none,.none,.none,.none,.none,.none,.base 3 1]
    [some 29,some 30,some 31,some 32,some 33,some 34,some 35,some 36,some 37,some 38,some 39,some 40,some 41,some 42,some 43]
    [(8,.slice (some ⟨bs,0,none⟩) 16 cs),(9,.slice (some ⟨bt,0,none⟩) 16 ct),(10,.pointer (some ⟨B4,0,none⟩)),(11,.int .i64 (k:Int))]
    [[],[.slot 0],[.slot 1],[],[],[.slot 3,.slot 4],[.slot 5,.base 1 0],[],[],[.slot 7,.slot 8],[.slot 9,.base 2 0],[.slot 6,.slot 10],[.slot 11],[.slot 12],[.slot 2,.slot 13,.cont 13 0,.base 3 0]]
    [.base 0 0,.base 1 0,.base 2 0,.base 3 1] [29,30,31,32,33,34,35,36,37,38,39,40,41,42,43]
    rfl (by kernel_rfl) ⟨rfl,rfl,rfl,rfl,trivial⟩ (Below.drew hB) (Acg _) ⟨⟨g2.lt,Al g2⟩,⟨rs.lt,rs⟩,⟨rt.lt,rt⟩,⟨g4.lt,Al g4⟩,trivial⟩ ⟨⟨trivial,trivial,(show ((w.heap.size+1+1):Nat)≠B4 from by omega),trivial⟩,⟨trivial,(show (bs:Nat)≠B4 from by omega),trivial⟩,⟨(show (bt:Nat)≠B4 from by omega),trivial⟩,trivial,trivial⟩ (A8 hB.size ⟨by omega,by omega,by omega,by omega,trivial⟩)
    ⟨
     sL fun f _=>sV (Ab rfl f.2.2.2.1),
     sL fun _ k=>sV (Gw rfl rfl k.1 (by omega) (by omega)),
     sL fun f k=>sV (DC rfl f.2.2.1 k.1 (Abn _ _ _ hlt)),
     sL fun f _=>sV (Ab rfl f.1),
     sL fun f _=>sV (Ab rfl f.2.2.2.1),
     sL fun _ k=>sV (An rfl underlying171 As k.1 k.2.1 hlt),
     sL fun _ k=>sV (At rfl k.1 (Aw (Ba k.2.1 hlt))),
     sL fun f _=>sV (Ab rfl f.2.1),
     sL fun f _=>sV (Ab rfl f.2.2.2.1),
     sL fun _ k=>sV (An rfl underlying171 As k.1 k.2.1 hlt),
     sL fun _ k=>sV (At rfl k.1 (Aw (Ba k.2.1 hlt))),
     sL fun _ kn=>sV (BO rfl kn.1 kn.2.1 (FD (hW k hlt) (W1 k hlt)) (DD (hW k hlt) (W1 k hlt))),
     sL fun _ kn=>.inl ⟨trivial,fun K hK=>AX (GC rfl kn.1 (KY (hW k hlt) (W1 k hlt)) (DD (hW k hlt) (W1 k hlt))) (hK _ _ ⟨Touch.refl _ _,congrArg (Value.int .i64) (HE.out k)⟩)⟩,
     (fun _ _ ww _ _ _ _ kn=>.inl ⟨trivial,fun K hK=>KC Lb rfl (BI kn.1) ((KZ (DN s k) ww (by rw[←HE.out k];exact BG _ _)).mono (fun e w' ⟨he,h1,h2⟩=>⟨_,he,rfl,h1,h2⟩)) (R:=fun u w'=>u=.slice (some ⟨ww.heap.size,0,none⟩) 4 4∧ArrAt w' ww.heap.size .u8 5 4 (b4 (DN s k))∧Below ww.heap.size ww w') (fun v w' ⟨hv,h1,h2⟩=>hK _ _ ⟨Ac h2,ww.heap.size,Acg _,hv,Al h1⟩)⟩),
     sL fun _ kn=>.inl ⟨trivial,fun K hK=>EH rfl kn.1 kn.2.1.1 (Ak kn.2.2.2.1) (m:=4) (by show 4=min 4 (64-4*k);omega) (by omega) (fun q hq=>by rw[Acl];exact ArrAt.cell (Ak kn.2.2.1) q hq) (fun w2 hg ho=>hK _ _ ⟨⟨Ag ho,Al ((show _=_ from by rw[show pw (DN s) (k+1)=over (pw (DN s) k) (4*k) 4 (b4 (DN s k)) from (Ty _ _ _).symm];exact hg))⟩,trivial⟩)⟩,
     trivial⟩ ?_
   intro vs5 own5 v5 hB5 hs5 kn inj;clear inj;have G2:ArrAt v5 (w.heap.size+1+1) .u8 183 64 (fun _=>0):=Ak kn.1;have Rs:RowAt v5 bs .i64 3 16 s:=kn.2.1;have Rt:RowAt v5 bt .i64 3 16 t:=kn.2.2.1;have G4:ArrAt v5 B4 .u8 183 64 (pw (DN s) (k+1)):=Ak kn.2.2.2.1;simp only[Am,Act.put,Aci,Acj,Ach];go_wp2_with fail
   go_roundg (16-(k+1))
   case rel=>exact⟨k+1,Hid.mk (by omega),by go_num,G2,Rs,Rt,G4,hB5⟩
   case measure=>have:=HK.out;omega
  ·have hk2:k=16:=by omega
   subst hk2;clear hlt hk16 HK
   go_wp2_with (first|(refine Aq Du g4 (by rfl) ?_)|(refine A1 Du g2 (by rfl) (by rfl) ?_;intro v6 g5 o5))
   exact bodyPost_ret (v:=.agg (WA .u8 64 (pw (DN s) 16))) (AE rfl Du g5 rfl) rfl ⟨rfl,hB.trans (o5.below (by omega))⟩
def dv(f:Nat→Int):Nat→Nat→Int
 | 0=>fun _=>0
 | k+1=>NJ (NJ (dv f k) k (f k)) (4+k) (f (12+k))
end Go.Proofs.YthghcjepdhkfdaaGreatDoor
namespace Go.Proofs.YthghcjepdhkfdaaGreatDoor
open Go.Proofs
open Go.Shelf
open Tryz
def JU:Go.Shelf.Ren:=⟨fun | 169=>186 | n=>n,fun | 70=>209 | 9=>9 | 0=>0 | 72=>211 | 37=>81 | 127=>234 | 3=>3 | 5=>5 | n=>n,fun | n=>n⟩
theorem Y9:Go.Proofs.Lays.n169 prog JU:={
 mixed:=by kernel_rfl
 f169:=Tryz.func186.trans (congrArg some (by kernel_rfl))
 t0:=underlying0
 a0:=isAgg0
 z0:=sizeOf0
 v0:=zeroValue0
 t3:=underlying3
 a3:=isAgg3
 z3:=sizeOf3
 v3:=zeroValue3
 t9:=underlying9
 a9:=isAgg9
 z9:=sizeOf9
 v9:=zeroValue9
 t37:=underlying81
 a37:=isAgg81
 z37:=sizeOf81
 v37:=zeroValue81
 t70:=underlying209
 a70:=isAgg209
 z70:=sizeOf209
 v70:=zeroValue209
 t72:=underlying211
 a72:=isAgg211
 z72:=sizeOf211
 v72:=zeroValue211
 t127:=underlying234
 a127:=isAgg234
 z127:=sizeOf234
 v127:=zeroValue234 }
theorem II:Builder.Extra prog JU:={
 sizeBuilder:=by kernel_rfl
 liesBuilder:=by kernel_rfl
 t5:=underlying5
 a5:=isAgg5
 z5:=sizeOf5
 v5:=zeroValue5
 infoByte:=by kernel_rfl
 cellsByte:=by kernel_rfl
 sizeByte:=by kernel_rfl
 neB5:=by decide }
open Go.RowKit in
theorem Builder_String_any(B b:Nat)(l:List UInt8)(w:World)(h:Lib.IsBuilder 211 5 B b (Lib.byteCells l) w)(hBw:B≤w.heap.size):Calls prog 186 #[.pointer (some ⟨b,0,none⟩)] w fun e w'=>e=.returned (.string ⟨l.toArray⟩)∧Below B w w':=Any.Builder_String_any Y9 II B b l w h hBw
def JV:Go.Shelf.Ren:=⟨fun | 165=>182 | 240=>207 | 241=>208 | 276=>218 | 277=>219 | n=>n,fun | 70=>209 | 3=>3 | 0=>0 | 4=>4 | 9=>9 | 20=>20 | 72=>211 | 37=>81 | 164=>244 | 5=>5 | n=>n,fun | n=>n⟩
theorem RF:Go.Proofs.Lays.n165 prog JV:={
 mixed:=by kernel_rfl
 f165:=Tryz.func182.trans (congrArg some (by kernel_rfl))
 f240:=Tryz.func207.trans (congrArg some (by kernel_rfl))
 f241:=Tryz.func208.trans (congrArg some (by kernel_rfl))
 f276:=Tryz.func218.trans (congrArg some (by kernel_rfl))
 f277:=Tryz.func219.trans (congrArg some (by kernel_rfl))
 t0:=underlying0
 a0:=isAgg0
 z0:=sizeOf0
 v0:=zeroValue0
 t3:=underlying3
 a3:=isAgg3
 z3:=sizeOf3
 v3:=zeroValue3
 t4:=underlying4
 a4:=isAgg4
 z4:=sizeOf4
 v4:=zeroValue4
 t9:=underlying9
 a9:=isAgg9
 z9:=sizeOf9
 v9:=zeroValue9
 t20:=underlying20
 a20:=isAgg20
 z20:=sizeOf20
 v20:=zeroValue20
 t37:=underlying81
 a37:=isAgg81
 z37:=sizeOf81
 v37:=zeroValue81
 t70:=underlying209
 a70:=isAgg209
 z70:=sizeOf209
 v70:=zeroValue209
 t72:=underlying211
 a72:=isAgg211
 z72:=sizeOf211
 v72:=zeroValue211
 t164:=underlying244
 a164:=isAgg244
 z164:=sizeOf244
 v164:=zeroValue244 }
theorem Builder_Extra_165:Builder.Extra prog JV:={
 sizeBuilder:=by kernel_rfl
 liesBuilder:=by kernel_rfl
 t5:=underlying5
 a5:=isAgg5
 z5:=sizeOf5
 v5:=zeroValue5
 infoByte:=by kernel_rfl
 cellsByte:=by kernel_rfl
 sizeByte:=by kernel_rfl
 neB5:=by decide }
open Go.RowKit in
theorem Builder_Grow_fresh(B b n:Nat)(w:World)(hB:B≤b)(hbk:w.heap[b]?=some (.cells #[.pointer none,.slice none 0 0] 211 (0,0)))(hBw:B≤w.heap.size)(hn:n≤281474976710656):Calls prog 182 #[.pointer (some ⟨b,0,none⟩),.int .i64 n] w fun e w'=>e=.returned (.tuple #[])∧(Lib.BuilderAt 211 5 B b (.pointer (some ⟨b,0,none⟩)) [] w'∧Below B w w'):=Any.Builder_Grow_fresh RF Builder_Extra_165 B b n w hB hbk hBw hn
open Go.RowKit in
theorem Le(b:Nat)(w:World)(h0:w.cell? ⟨b,0,none⟩=some (.pointer (some ⟨b,0,none⟩))):Calls prog 207 #[.pointer (some ⟨b,0,none⟩)] w fun e w'=>e=.returned (.tuple #[])∧w'=w:=Any.Builder_copyCheck_used { RF with } Builder_Extra_165.toX72 b w h0
end Go.Proofs.YthghcjepdhkfdaaGreatDoor
namespace Go.Proofs.YthghcjepdhkfdaaGreatDoor
open Go.RowKit Go.Proofs
open Tryz
def Bld(w:World)(B b n:Nat)(f:Nat→Int):Prop:=Lib.BuilderAt 211 5 B b (.pointer (some ⟨b,0,none⟩)) (AC .u8 n f) w
theorem Bld.kept{w w':World}{B b n:Nat}{f:Nat→Int}(h:Bld w B b n f)(hb:Below w.heap.size w w'):Bld w' B b n f:=by
 obtain⟨hB,v,hk,ho,hn⟩:=h;exact⟨hB,v,(hb.block b (Aa hk)).trans hk,Bp ho hb,hn⟩
theorem Bld.congr{w:World}{B b n:Nat}{f g:Nat→Int}(h:Bld w B b n f)(e:∀i,i<n→f i=g i):Bld w B b n g:=by
 unfold Bld;rw[←B2 e];exact h
theorem neB5:211≠5:=by decide
theorem T5(B b n m c bd off:Nat)(f r:Nat→Int)(w:World)(h:Bld w B b n f)(hc:∀j,j<m→w.cell? ⟨bd,off+j,none⟩=some (.int .u8 (r j)))(hlen:n+m≤140737488355328)(hBw:B≤w.heap.size):Calls prog 185 #[.pointer (some ⟨b,0,none⟩),.slice (some ⟨bd,off,none⟩) m c] w fun e w'=>e=.returned (.tuple #[.int .i64 m,.nilIface])∧Bld w' B b (n+m) (cat n f r)∧Below B w w':=by
 obtain⟨i0,hi,hz0,hz1,hz2⟩:=info_parts infoByte;obtain⟨hB,v,hbk,hown,hne⟩:=h;rw[A3] at hown;have c0:w.cell? ⟨b,0,none⟩=some (.pointer (some ⟨b,0,none⟩)):=by rw[Lib.cell_of_heap hbk];rfl
 have c1:w.cell? ⟨b,1,none⟩=some v:=by rw[Lib.cell_of_heap hbk];rfl
 have HC:Hid (∀j u,(AC .u8 m r)[j]?=some u→w.cell? ((⟨bd,off,none⟩:Addr).add j)=some u):=Hid.mk (fun j u hj=>by
  obtain⟨hj2,rfl⟩:=B6 hj;rw[Addr.add_lit];exact hc j hj2)
 clear hc;go_enter func185,ntmps185;go_wp2_with fail;refine(Le b w c0).mono ?_;rintro e w1 ⟨rfl,rfl⟩
 go_wp2_with (at_builtin;refine wpList_append_own w1 rfl _ _ 81 rfl B 5 i0 (.int .u8 0) 1 1 underlying81 hi hz0 hz1 hz2 rfl (by decide) _ n _ rfl hown ⟨bd,off,none⟩ m c (AC .u8 m r) rfl (by rw[A3];omega) HC.out EG ?c3 ?c4 hBw ?_)
 case c3=>unfold maxLen;omega
 case c4=>omega
 intro v' w2 hown' hgrow _;clear HC;rw[KF] at hown';have hlt:b<w1.heap.size:=Aa hbk
 have hb2:w2.heap[b]?=some (.cells #[.pointer (some ⟨b,0,none⟩),v] 211 (0,0)):=by
  rw[hgrow.block b hlt (fun e=>hne e.symm)];exact hbk
 have d0:w2.cell? ⟨b,0,none⟩=some (.pointer (some ⟨b,0,none⟩)):=by rw[Lib.cell_of_heap hb2];rfl
 have d1:w2.cell? ⟨b,1,none⟩=some v:=by rw[Lib.cell_of_heap hb2];rfl
 have f1:w2.frozen? ⟨b,1,none⟩=false:=Lib.frozen_of_heap hb2 1
 obtain⟨ao,n',cap,rfl⟩:∃ao n' cap,v'=.slice ao n' cap:=by
  rcases hown'.2 with ⟨hv,_⟩ | ⟨g,cap,cur,hv,_⟩
  ·exact⟨_,_,_,hv⟩
  ·exact⟨_,_,_,hv⟩
 go_wp2;exact bodyPost_ret (v:=.tuple #[.int .i64 m,.nilIface]) (by simp[results,results185,go_sem]) rfl
  ⟨rfl,Lib.BuilderAt.put hB hb2 (by rw[A3];exact hown') neB5,(Below.grow hgrow hBw (I2 hown)).setCell (p:=⟨b,1,none⟩) hB _⟩
theorem Qn(B b n:Nat)(f:Nat→Int)(w:World)(h:Bld w B b n f)(hf:∀j,j<n→0≤f j∧f j<256)(hBw:B≤w.heap.size):Calls prog 186 #[.pointer (some ⟨b,0,none⟩)] w fun e w'=>e=.returned (.string (mkS n f))∧Below B w w':=
 Builder_String_any B b (Dw n f) w (.inr (by rw[←PQ hf];exact h)) hBw
theorem VO(B b n:Nat)(w:World)(hB:B≤b)(hbk:w.heap[b]?=some (.cells #[.pointer none,.slice none 0 0] 211 (0,0)))(hBw:B≤w.heap.size)(hn:n≤281474976710656):Calls prog 182 #[.pointer (some ⟨b,0,none⟩),.int .i64 n] w fun e w'=>e=.returned (.tuple #[])∧Bld w' B b 0 (fun _=>0)∧Below B w w':=Builder_Grow_fresh B b n w hB hbk hBw hn
def ksb(key nonce:Nat→Int)(c:Int)(j:Nat):Int:=blk (ssq key ((c+(j/64:Nat))%4294967296) nonce 3) (j%64)
def EQ(key nonce:Nat→Int)(c:Int)(s:ByteArray)(j:Nat):Int:=Ap (txt s j) (ksb key nonce c j)
theorem Aan(key nonce:Nat→Int)(c d:Int)(k:Nat):upd (ssq key c nonce k) 12 d=ssq key d nonce k:=by
 funext i
 unfold upd ssq
 split<;>rfl
theorem VP(key nonce:Nat→Int)(c:Int)(k:Nat):upd (ssq key c nonce 3) 12 (Bb (ssq key c nonce 3 12) ((k:Int)%4294967296))=ssq key ((c+(k:Nat))%4294967296) nonce 3:=by
 rw[Aan,show ssq key c nonce 3 12=c from rfl];unfold Bb;congr 1;omega
def xo(b p:Nat→Int)(j:Nat)(i:Nat):Int:=if i<j then Ap (b i) (p i) else b i
theorem YA(b p:Nat→Int)(j:Nat):upd (xo b p j) j (Ap (xo b p j j) (p j))=xo b p (j+1):=by
 funext i
 unfold upd xo
 by_cases e:i=j
 ·subst e;simp
 ·rw[if_neg e]
  by_cases h:i<j
  ·rw[if_pos h,if_pos (by omega)]
  ·rw[if_neg h,if_neg (by omega)]
theorem AbV{b p:Nat→Int}{n:Nat}(j:Nat)(hb:∀i,i<n→0≤b i∧b i<256)(hp:∀i,0≤p i∧p i<256):∀i,i<n→0≤xo b p j i∧xo b p j i<256:=fun i hi=>by
 unfold xo
 split
 ·exact Nt (hb i hi) (hp i)
 ·exact hb i hi
theorem RH(s:Nat→Int):Byts 64 (blk s):=RE _ _ _
theorem Abq(b j:Nat)(w:World)(hj:j≤64):(Instr.sliceAt 183 (.pointer (some ⟨b,0,none⟩)) none (some (.int .i64 (j:Int))) none).run prog w=.ok (.slice (some ⟨b,0,none⟩) j 64) w:=by
 rw[run_sliceAt_array_h (P:=prog) w 183 ⟨b,0,none⟩ underlying183 .i64 (j:Int) (by omega) (by rw[Hy];omega),FI,Hy];simp only[Result.andThen_ok,slicedAt,AcB,Nat.zero_mul];rw[if_neg (by omega),Addr.add_lit];simp
theorem VQ(key nonce:Nat→Int)(c:Int)(s:ByteArray)(j:Nat):0≤EQ key nonce c s j∧EQ key nonce c s j<256:=Nt (Bn s j) (RH _ _ (Nat.mod_lt _ (by decide)))
theorem Lf(key nonce:Nat→Int)(c:Int)(s:ByteArray)(w:World)(hk:Byts 32 key)(hn:Byts 12 nonce)(_hc:W32 c)(hs:s.size≤140737488355328):Calls prog 149 #[.agg (WA .u8 32 key),.int .u32 c,.agg (WA .u8 12 nonce),.string s] w fun e w'=>e=.returned (.string (mkS s.size (EQ key nonce c s)))∧Below w.heap.size w w':=by
 have g0:ArrAt ((w.alloc (.cells (WA .u8 32 key) 22)).alloc (.cells (WA .u8 12 nonce) 26)) w.heap.size .u8 22 32 key:=heap_alloc2_old w _ _;have g1:ArrAt ((w.alloc (.cells (WA .u8 32 key) 22)).alloc (.cells (WA .u8 12 nonce) 26)) (w.heap.size+1) .u8 26 12 nonce:=heap_alloc2_new w _ _;have hB:Below w.heap.size w ((w.alloc (.cells (WA .u8 32 key) 22)).alloc (.cells (WA .u8 12 nonce) 26)):=((Below.refl _ w).alloc (by simp) _).alloc (by simp) _;go_enter func149,ntmps149
 go_wp2_with (first|(refine Aq Af g0 (by rfl) ?_)|(refine Aq Ax g1 (by rfl) ?_))
 refine(Fy key nonce c _ hk hn).mono ?_;rintro e v1 ⟨rfl,hb⟩;replace hB:=hB.trans (hb.mono hB.size);clear hb g0 g1
 go_wp2_with (first|(refine A1 (s':=fun _=>0) (k':=.u32) GD (heap_alloc_new v1 _) (by rfl) (by rfl) ?_;intro v2 g3 o3;refine Hid.out ?_))
 have hz9:w.heap.size≤v1.heap.size:=hB.size;replace hB:=(hB.alloc hB.size _).trans (o3.below hB.size);have hz1:=hB.size;clear o3;generalize v1.heap.size=b9 at *;refine Hid.mk ?_;go_wp2_with fail;refine(VO v2.heap.size v2.heap.size s.size _ (Acg _) (heap_alloc_new v2 _) (by simp) (by omega)).mono ?_;rintro e v3 ⟨rfl,hD,hb3⟩;have hz10:=g3.lt;replace g3:=(g3.alloc _).below hb3 hz10;replace hB:=(hB.alloc hB.size _).trans (hb3.mono hz1);have hz3:v2.heap.size≤v3.heap.size:=Acp (by simp) hb3.size;clear hb3 hz1;generalize v2.heap.size=b10 at *;obtain⟨N,hN⟩:∃N:Nat,(s.size+63)/64=N:=⟨_,rfl⟩;have hq:((s.size:Int)+64-1).tdiv 64=(N:Int):=by rw[Ac8 (by omega)];omega
 have hN2:(N:Int)<9223372036854775807:=by omega
 go_wp2_with fail
 go_loopg [28] N (fun m i v=>∃k:Nat,Hid (m+k=N)∧i=.int .i64 k∧ArrAt v b9 .u32 207 16 (ssq key c nonce 3)∧Bld v b10 b10 (min (64*k) s.size) (EQ key nonce c s)∧Below w.heap.size w v∧b10≤v.heap.size)
 case atStart=>exact⟨0,Hid.mk (by omega),rfl,g3,by simpa using hD.congr (fun i hi=>by omega),hB,hz3⟩
 case round =>
  clear g3 hD hB hz3;obtain⟨k,HK,rfl,g3,hD,hB,hz3⟩:=hrel;have hkN:k≤N:=by have:=HK.out;omega
  by_cases hlt:k<N
  ·have hks:64*k<s.size:=by omega
   go_wp2_with (first|(refine Aq GD g3 (by rfl) ?_))
   refine(Tw _ _ _).mono ?_;rintro e v4 ⟨rfl,hb4⟩;rw[VP];have hW:∀i,i<16→W32 (ssq key ((c+(k:Nat))%4294967296) nonce 3 i):=ZM hk hn (by unfold W32;omega);have HB:Hid (blk (ssq key ((c+(k:Nat))%4294967296) nonce 3)=fun i=>blk (ssq key ((c+(k:Nat))%4294967296) nonce 3) i):=Hid.mk rfl;go_wp2_with fail;refine(MO _ _ hW).mono ?_;rintro e v5 ⟨rfl,hb5⟩;have hb45:Below wr.heap.size wr v5:=hb4.trans (hb5.mono hb4.size);replace g3:=g3.kept hb45;replace hD:=hD.kept hb45;replace hB:=hB.trans (hb45.mono hB.size);replace hz3:=Acp hz3 hb45.size;clear hb4 hb5 hb45 hW HB;have hbk:=RH (ssq key ((c+(k:Nat))%4294967296) nonce 3);obtain⟨bk,HK2⟩:∃bk,Hid (blk (ssq key ((c+(k:Nat))%4294967296) nonce 3)=bk):=⟨_,Hid.mk rfl⟩;rw[HK2.out] at hbk ⊢;have HS:=Hid.mk (Cc s (k*64));have HT:Hid (∀j,k*64+j<s.size→txt (s.extract (k*64) s.size) j=txt s (k*64+j)):=Hid.mk (fun j hj=>B7 s (k*64) j hj);generalize s.extract (k*64) s.size=pc at *;obtain⟨n,HN⟩:∃n:Nat,Hid (min pc.size 64=n):=⟨_,Hid.mk rfl⟩;have hmin:min (pc.size:Int) 64=(n:Int):=by have:=HN.out;omega
   have hn64:n≤64:=by have:=HN.out;omega
   have hnp:n≤pc.size:=by have:=HN.out;omega
   have hpsz:pc.size≤140737488355328:=by have:=HS.out;omega
   go_wp2_with (first|(refine A1 (s':=fun _=>0) (k':=.u8) Du (heap_alloc_new v5 _) (by rfl) (by rfl) ?_;intro v6 g6 o6;refine Hid.out ?_))
   have hb6:Below v5.heap.size v5 v6:=((Below.refl _ v5).alloc (Acg _) _).trans (o6.below (Acg _));clear o6;refine Hid.mk ?_;go_wp2_with fail;rw[show bk=xo bk (txt pc) 0 from by funext i;unfold xo;rw[if_neg (by omega)]] at g6;obtain⟨b13,hb13⟩:∃b,v5.heap.size=b:=⟨_,rfl⟩;rw[hb13] at g6 hb6 ⊢;generalize wr=wo at *;generalize gk=go at *
   go_loopg [44] n (fun m i v=>∃j:Nat,Hid (m+j=n)∧i=.int .i64 j∧ArrAt v b13 .u8 183 64 (xo bk (txt pc) j)∧Below b13 v5 v)
   case atStart=>exact⟨0,Hid.mk (by omega),rfl,g6,hb6⟩
   case round =>
    clear g6 hb6;obtain⟨j,HJ,rfl,g6,hb6⟩:=hrel;have hjn:j≤n:=by have:=HJ.out;omega
    by_cases hjl:j<n
    ·have hj64:j<64:=by omega
     have hjp:j<pc.size:=by omega
     go_wp2_with fail;refine Ai (Below b13 v5) wr.heap.size
      [(b13,once (WA .u8 64 (xo bk (txt pc) j)) 183 8 (WA .u8 64 (xo bk (txt pc) (j+1))))]
      [kv (.int .i64 (j:Int)),kv (.pointer (some ⟨b13,j,none⟩)),kv (.int .u8 (xo bk (txt pc) j j)),kv (.string pc),kv (.int .i64 (j:Int)),kv (.int .u8 (txt pc j)),kv (.int .u8 (Ap (xo bk (txt pc) j j) (txt pc j))),kv (.pointer (some ⟨b13,j,none⟩)),.val fun _=>True]
      [.none,.none,.none,.none,.none,.none,.none,.none,.base 0 1]
      [some 47,some 48,some 49,some 50,some 51,some 52,some 53,some 54,none]
      [(12,.string pc),(13,.pointer (some ⟨b13,0,none⟩)),(15,.int .i64 (j:Int))]
      [[],[.slot 0],[.slot 1,.base 0 0],[],[],[.slot 3,.slot 4],[.slot 2,.slot 5],[.slot 0],[.slot 7,.slot 6,.base 0 0]]
      [.base 0 1] [47,48,49,50,51,52,53,54]
      rfl (by kernel_rfl) ⟨rfl,rfl,rfl,trivial⟩ (Below.drew hb6) (Acg _) ⟨⟨g6.lt,Al g6⟩,trivial⟩ ⟨trivial,trivial⟩ (UI (Nat.le_of_eq hb13.symm) (hb13▸hb6.size) ⟨Acg _,trivial⟩)
      ⟨
       sL fun f _=>sV (Ab rfl f.2.2.1),
       sL fun f k=>sV (Ev rfl underlying183 Hy FI f.2.1 k.1 hj64),
       sL fun _ k=>sV (At rfl k.1 (D3 (ArrAt.cell (Ak k.2.1) j hj64))),
       sL fun f _=>sV (Ab rfl f.1),
       sL fun f _=>sV (Ab rfl f.2.2.1),
       sL fun _ k=>sV (Gx rfl k.1 k.2.1 hjp),
       sL fun _ k=>sV (Ew rfl k.1 k.2.1 (AbV j hbk (Bn pc) j hj64) (Bn pc j)),
       sL fun f k=>sV (Ev rfl underlying183 Hy FI f.2.1 k.1 hj64),
       sL fun _ k=>.inl ⟨trivial,fun K hK=>Su rfl k.1 k.2.1 (Ak k.2.2.1) hj64 (fun w2 hg ho=>hK _ _ ⟨⟨Ag ho,Al (show _=_ from by rw[←YA];exact hg)⟩,trivial⟩)⟩,
       trivial⟩ ?_
     intro vs7 own7 v7 hb7 hs7 kn inj;clear inj hs7;have G6:ArrAt v7 b13 .u8 183 64 (xo bk (txt pc) (j+1)):=Ak kn.1;clear kn;simp only[Am,Act.put,Aci,Acj,Ach];go_wp2_with fail
     go_roundg (n-(j+1))
     case rel=>exact⟨j+1,Hid.mk (by omega),by go_num,G6,hb7⟩
     case measure=>have:=HJ.out;omega
    ·have hj2:j=n:=by omega
     subst hj2;clear hjl hjn HJ;have hsl:=fun w=>Abq b13 j w hn64
     go_wp2_with fail;have hD2:=hD.kept (hb13.symm▸hb6);have g3b:=g3.kept (hb13.symm▸hb6);refine(T5 b10 b10 (min (64*k) s.size) j 64 b13 0 (EQ key nonce c s) (xo bk (txt pc) j) _ hD2 (fun q hq=>by rw[Acl];exact g6.cell q (by omega)) (by have:=HS.out;omega) (by have:=hb6.size;omega)).mono ?_;rintro e v8 ⟨rfl,hD8,hb8⟩;have hks2:min (64*k) s.size=64*k:=by omega
     have hnx:min (64*k) s.size+j=min (64*(k+1)) s.size:=by have:=HN.out;have:=HS.out;omega
     replace hD8:=hD8.congr (g:=EQ key nonce c s) (fun i hi=>by
      rw[hks2];unfold cat
      split
      ·rfl
      ·rename_i h
       have e1:i/64=k:=by omega
       have e2:i%64=i-64*k:=by omega
       have e3:txt pc (i-64*k)=txt s i:=by
        have:=HT.out (i-64*k) (by have:=HS.out;omega);rw[this];congr 1;omega
       unfold xo EQ ksb;rw[if_pos (by omega),e1,e2,e3,HK2.out,My])
     rw[hnx] at hD8;have g8:=g3b.below hb8 hz10;have hB8:=(hB.trans (Below.mono (hb13.symm▸hb6) hB.size)).trans (hb8.mono (by omega));have hz8:b10≤v8.heap.size:=by have:=hb8.size;have:=hb6.size;omega
     clear hsl hD hD2 g3 g3b g6 hb6 hb8 hB hmin;go_wp2_with fail
     go_roundg (N-(k+1))
     case rel=>exact⟨k+1,Hid.mk (by omega),by go_num,g8,hD8,hB8,hz8⟩
     case measure=>have:=HK.out;omega
  ·have hk2:k=N:=by omega
   subst hk2;have hall:min (64*k) s.size=s.size:=by omega
   rw[hall] at hD;go_wp2_with fail;refine(Qn b10 b10 s.size (EQ key nonce c s) _ hD (fun j _=>VQ key nonce c s j) hz3).mono ?_;rintro e v9 ⟨rfl,hb9⟩;go_wp2_with fail
   go_ret
   exact⟨rfl,hB.trans (hb9.mono (by omega))⟩
def mix(g t:Nat→Int)(i:Nat)(j:Nat):Int:=if j<i then g j else t j
theorem VR(g t:Nat→Int)(i:Nat)(v:Int)(h:v=g i):upd (mix g t i) i v=mix g t (i+1):=by
 subst h
 funext j
 unfold upd mix
 by_cases e:j=i
 ·subst e;simp
 ·rw[if_neg e]
  by_cases h:j<i
  ·rw[if_pos h,if_pos (by omega)]
  ·rw[if_neg h,if_neg (by omega)]
theorem JW(key nonce:Nat→Int)(c:Int)(s:ByteArray)(w:World)(hk:Byts 32 key)(hn:Byts 12 nonce)(hc:W32 c)(hs:s.size≤140737488355328):Calls prog 128 #[.agg (WA .u8 32 key),.int .u32 c,.agg (WA .u8 12 nonce),.string s] w fun e w'=>e=.returned (.string (mkS s.size (EQ key nonce c s)))∧Below w.heap.size w w':=by
 have g0:ArrAt ((w.alloc (.cells (WA .u8 32 key) 22)).alloc (.cells (WA .u8 12 nonce) 26)) w.heap.size .u8 22 32 key:=heap_alloc2_old w _ _;have g1:ArrAt ((w.alloc (.cells (WA .u8 32 key) 22)).alloc (.cells (WA .u8 12 nonce) 26)) (w.heap.size+1) .u8 26 12 nonce:=heap_alloc2_new w _ _;have hB:Below w.heap.size w ((w.alloc (.cells (WA .u8 32 key) 22)).alloc (.cells (WA .u8 12 nonce) 26)):=((Below.refl _ w).alloc (by simp) _).alloc (by simp) _;obtain⟨cp,v1,hcv,hR,hb1⟩:=KH s ((w.alloc (.cells (WA .u8 32 key) 22)).alloc (.cells (WA .u8 12 nonce) 26));rw[show ((w.alloc (.cells (WA .u8 32 key) 22)).alloc (.cells (WA .u8 12 nonce) 26)).heap.size=w.heap.size+1+1 by simp] at hcv hR;replace g0:=g0.kept hb1;replace g1:=g1.kept hb1;replace hB:=hB.trans (hb1.mono hB.size);clear hb1;go_enter func128,ntmps128;go_wp2_with fail;clear hcv;obtain⟨b9,hb9⟩:∃b,w.heap.size+1+1=b:=⟨_,rfl⟩;rw[hb9] at hR ⊢;obtain⟨N,hN⟩:∃N:Nat,(s.size+63)/64=N:=⟨_,rfl⟩
 go_loopg [1,10] N (fun m cv i v=>∃q:Nat,Hid (m+q=N)∧cv=.int .u32 ((c+(q:Nat))%4294967296)∧i=.int .i64 ((min (64*q) s.size:Nat):Int)∧ArrAt v w.heap.size .u8 22 32 key∧ArrAt v (w.heap.size+1) .u8 26 12 nonce∧RowAt v b9 .u8 5 s.size (mix (EQ key nonce c s) (txt s) (min (64*q) s.size))∧Below w.heap.size w v)
 case atStart=>exact⟨0,Hid.mk (by omega),by unfold W32 at hc;congr 1;omega,by simp,g0,g1,hR.mono (Acg _) (fun i _=>by simp[mix]),hB⟩
 case round =>
  clear g0 g1 hR hB;obtain⟨q,HQ,rfl,rfl,g0,g1,hR,hB⟩:=hrel;have hqN:q≤N:=by have:=HQ.out;omega
  by_cases hlt:q<N
  ·have hqs:64*q<s.size:=by omega
   have hm:min (64*q) s.size=64*q:=by omega
   rw[hm] at hR ⊢
   go_wp2_with (first|(refine Aq Af g0 (by rfl) ?_)|(refine Aq Ax g1 (by rfl) ?_))
   refine(Ld key nonce ((c+(q:Nat))%4294967296) _ hk hn (by unfold W32;omega)).mono ?_;rintro e v4 ⟨rfl,hb4⟩;replace g0:=g0.kept hb4;replace g1:=g1.kept hb4;have hz4:b9<v4.heap.size:=AcH hR.lt hb4.size;replace hR:=hR.below hb4 hR.lt;replace hB:=hB.trans (hb4.mono hB.size);clear hb4;have hbk:=RH (ssq key ((c+(q:Nat))%4294967296) nonce 3);obtain⟨bk,HK2⟩:∃bk,Hid (blk (ssq key ((c+(q:Nat))%4294967296) nonce 3)=bk):=⟨_,Hid.mk rfl⟩;rw[HK2.out] at hbk ⊢
   go_wp2_with (first|(refine A1 (s':=fun _=>0) (k':=.u8) Du (heap_alloc_new v4 _) (by rfl) (by rfl) ?_;intro v5 g5 o5;refine Hid.out ?_))
   replace g0:=(g0.alloc _).only o5 (Ack g0.lt);replace g1:=(g1.alloc _).only o5 (Ack g1.lt);replace hR:=(hR.alloc _).only o5 (Ack hz4);replace hB:=(hB.alloc hB.size _).trans (o5.below hB.size);clear o5;generalize v4.heap.size=b11 at *;refine Hid.mk ?_;have hd:decide (((64*q:Nat):Int)<(s.size:Int))=true:=by simp;omega
   go_wp2_with fail;obtain⟨n,hnn⟩:∃n:Nat,min 64 (s.size-64*q)=n:=⟨_,rfl⟩;generalize wr=wo at *;generalize gk=go at *
   go_loopg [10,12] n (fun m i jv v=>∃j:Nat,Hid (m+j=n)∧i=.int .i64 ((64*q+j:Nat):Int)∧jv=.int .i64 (j:Int)∧ArrAt v w.heap.size .u8 22 32 key∧ArrAt v (w.heap.size+1) .u8 26 12 nonce∧ArrAt v b11 .u8 183 64 bk∧RowAt v b9 .u8 5 s.size (mix (EQ key nonce c s) (txt s) (64*q+j))∧Below w.heap.size w v)
   case atStart=>exact⟨0,Hid.mk (by omega),by go_num,rfl,g0,g1,g5,hR,hB⟩
   case round =>
    clear g0 g1 hR hB g5;obtain⟨j,HJ,rfl,rfl,g0,g1,g5,hR,hB⟩:=hrel;have hjn:j≤n:=by have:=HJ.out;omega
    by_cases hjl:j<n
    ·have hj64:j<64:=by omega
     have hjs:64*q+j<s.size:=by omega
     have HX:Hid (Ap (mix (EQ key nonce c s) (txt s) (64*q+j) (64*q+j)) (bk j)=EQ key nonce c s (64*q+j)):=Hid.mk (by
      have e1:(64*q+j)/64=q:=by omega
      have e2:(64*q+j)%64=j:=by omega
      unfold mix EQ ksb;rw[if_neg (by omega),e1,e2,HK2.out])
     have hmb:0≤mix (EQ key nonce c s) (txt s) (64*q+j) (64*q+j)∧mix (EQ key nonce c s) (txt s) (64*q+j) (64*q+j)<256:=by
      unfold mix;rw[if_neg (by omega)];exact Bn _ _
     obtain⟨i,hi⟩:∃i,64*q+j=i:=⟨_,rfl⟩;rw[hi] at HX hmb hR hjs ⊢;have hic:(i:Int)<(s.size:Int):=by omega
     go_wp2_with fail;refine Ai (Below w.heap.size w) wr.heap.size
      [(w.heap.size,AQ (WA .u8 32 key) 22),((w.heap.size+1),AQ (WA .u8 12 nonce) 26),(b11,AQ (WA .u8 64 bk) 183),(b9,⟨B5 .u8 5 s.size (mix (EQ key nonce c s) (txt s) i),[(11,B5 .u8 5 s.size (mix (EQ key nonce c s) (txt s) (i+1)))]⟩)]
      [kv (.slice (some ⟨b9,0,none⟩) s.size cp),kv (.int .i64 (i:Int)),kv (.slice (some ⟨b9,0,none⟩) s.size cp),kv (.int .i64 (i:Int)),kv (.pointer (some ⟨b9,0+i,none⟩)),kv (.int .u8 (mix (EQ key nonce c s) (txt s) i i)),kv (.int .i64 (j:Int)),kv (.pointer (some ⟨b11,j,none⟩)),kv (.int .u8 (bk j)),kv (.int .u8 (Ap (mix (EQ key nonce c s) (txt s) i i) (bk j))),kv (.pointer (some ⟨b9,0+i,none⟩)),.val fun _=>True]
      [.none,.none,.none,.none,.none,.none,.none,.none,.none,.none,.none,.base 3 1]
      [some 33,some 34,some 35,some 36,some 37,some 38,some 39,some 40,some 41,some 42,some 43,none]
      [(9,.slice (some ⟨b9,0,none⟩) s.size cp),(10,.int .i64 (i:Int)),(11,.pointer (some ⟨b11,0,none⟩)),(12,.int .i64 (j:Int))]
      [[],[],[],[],[.slot 2,.slot 3],[.slot 4,.base 3 0],[],[.slot 6],[.slot 7,.base 2 0],[.slot 5,.slot 8],[.slot 0,.slot 1],[.slot 10,.slot 9,.base 3 0]]
      [.base 0 0,.base 1 0,.base 2 0,.base 3 1] [33,34,35,36,37,38,39,40,41,42,43]
      rfl (by kernel_rfl) ⟨rfl,rfl,rfl,rfl,trivial⟩ (Below.drew hB) (Acg _) ⟨⟨g0.lt,Al g0⟩,⟨g1.lt,Al g1⟩,⟨g5.lt,Al g5⟩,⟨hR.lt,hR⟩,trivial⟩ ⟨⟨trivial,trivial,(show (w.heap.size:Nat)≠b9 from by omega),trivial⟩,⟨trivial,(show ((w.heap.size+1):Nat)≠b9 from by omega),trivial⟩,⟨(show (b11:Nat)≠b9 from by omega),trivial⟩,trivial,trivial⟩ (A8 hB.size ⟨by omega,by omega,by omega,by omega,trivial⟩)
      ⟨
       sL fun f _=>sV (Ab rfl f.1),
       sL fun f _=>sV (Ab rfl f.2.1),
       sL fun f _=>sV (Ab rfl f.1),
       sL fun f _=>sV (Ab rfl f.2.1),
       sL fun _ k=>sV (An rfl underlying81 Ex k.1 k.2.1 hjs),
       sL fun _ k=>sV (At rfl k.1 (D3 (Oo k.2.1 hjs))),
       sL fun f _=>sV (Ab rfl f.2.2.2.1),
       sL fun f k=>sV (Ev rfl underlying183 Hy FI f.2.2.1 k.1 hj64),
       sL fun _ k=>sV (At rfl k.1 (D3 (ArrAt.cell (Ak k.2.1) j hj64))),
       sL fun _ k=>sV (Ew rfl k.1 k.2.1 hmb (hbk j hj64)),
       sL fun _ k=>sV (An rfl underlying81 Ex k.1 k.2.1 hjs),
       sL fun _ k=>.inl ⟨trivial,fun K hK=>UJ rfl (Gl k.1) k.2.1 k.2.2.1 hjs (fun w2 hg ho=>hK _ _ ⟨⟨Ag ho,VR _ _ i _ HX.out▸hg⟩,trivial⟩)⟩,
       trivial⟩ ?_
     intro vs6 own6 v6 hB6 hs6 kn inj;clear inj hs6;have G0:ArrAt v6 w.heap.size .u8 22 32 key:=Ak kn.1;have G1:ArrAt v6 (w.heap.size+1) .u8 26 12 nonce:=Ak kn.2.1;have G5:ArrAt v6 b11 .u8 183 64 bk:=Ak kn.2.2.1;have R6:RowAt v6 b9 .u8 5 s.size (mix (EQ key nonce c s) (txt s) (i+1)):=kn.2.2.2.1;clear kn;simp only[Am,Act.put,Aci,Acj,Ach];go_wp2_with fail
     go_roundg (n-(j+1))
     case rel=>exact⟨j+1,Hid.mk (by omega),by go_num,by go_num,G0,G1,G5,by rw[←Nat.add_assoc,hi];exact R6,hB6⟩
     case measure=>have:=HJ.out;omega
    ·have hj2:j=n:=by omega
     subst hj2;clear hjl hjn HJ;have hx:64*q+j=min (64*(q+1)) s.size:=by omega
     have hend:¬((j:Int)<64∧((64*q+j:Nat):Int)<(s.size:Int)):=by omega
     rw[hx] at hR
     by_cases hj64:(j:Int)<64
     ·have hns:¬(((64*q+j:Nat):Int)<(s.size:Int)):=by omega
      go_wp2_with fail
      go_roundg (N-(q+1))
      case rel=>exact⟨q+1,Hid.mk (by omega),congrArg (Value.int .u32) (by omega),by rw[←hx],g0,g1,hR,hB⟩
      case measure=>have:=HQ.out;omega
     ·go_wp2_with fail
      go_roundg (N-(q+1))
      case rel=>exact⟨q+1,Hid.mk (by omega),congrArg (Value.int .u32) (by omega),by rw[←hx],g0,g1,hR,hB⟩
      case measure=>have:=HQ.out;omega
  ·have hk2:q=N:=by omega
   subst hk2;have hall:min (64*q) s.size=s.size:=by omega
   rw[hall] at hR ⊢;have hback:=AD s.size b9 cp wr s.size (EQ key nonce c s) (hR.mono (Acg _) (fun i hi=>by unfold mix;rw[if_pos hi])) (fun j _=>VQ key nonce c s j) rfl;go_wp2_with fail
   go_ret
   exact⟨rfl,hB⟩
theorem Lg(args:Array Value)(w:World):(callFunc 163 args).run prog w=.ok (.enter 163 args) w:=by kernel_rfl
theorem Ij(args:Array Value)(w:World):(callFunc 130 args).run prog w=.ok (.enter 130 args) w:=by kernel_rfl
theorem T6(args:Array Value)(w:World):(callFunc 162 args).run prog w=.ok (.enter 162 args) w:=by kernel_rfl
def D7(key nonce:Nat→Int):Nat→Int:=over (fun _=>0) 0 32 (blk (ssq key 0 nonce 3))
def marked(under beside:ByteArray):ByteArray:=Fx beside++Fx under++mkS 8 (AM (beside.size:Int))++mkS 8 (AM (under.size:Int))
def DO(key nonce:Nat→Int)(under beside:ByteArray):ByteArray:=mkS 16 (AM (Dh (D7 key nonce) (txt (marked under beside)) (marked under beside).size))
theorem RI(key nonce:Nat→Int):Byts 32 (D7 key nonce):=fun i hi=>by
 unfold D7 over
 split
 ·exact RH _ _ (by omega)
 ·show 0≤(0:Int)∧(0:Int)<256
  omega
theorem MP(s:ByteArray):(Fx s).size≤s.size+15:=by
 unfold Fx;rw[ByteArray.size_append,Ar];omega
theorem Aao(w:World):(zeroValue 54).run prog w=.ok (.agg (WA .u8 16 fun _=>0)) w:=by kernel_rfl
theorem NK{n:Int}(h:0≤n∧n<18446744073709551616)(w:World):(convert 3 98 (.int .i64 n)).run prog w=.ok (.int .u64 n) w:=by
 simp[go_sem,w64 (z:=n) h.1 h.2]
theorem Abr(b:Nat)(w:World):(Instr.sliceAt 183 (.pointer (some ⟨b,0,none⟩)) none (some (.int .i64 32)) none).run prog w=.ok (.slice (some ⟨b,0,none⟩) 32 64) w:=by simp[go_sem]
theorem MQ(key nonce:Nat→Int)(under beside:ByteArray)(w:World)(hk:Byts 32 key)(hn:Byts 12 nonce)(hu:under.size≤281474976710656)(hbs:beside.size≤281474976710656):Calls prog 129 #[.agg (WA .u8 32 key),.agg (WA .u8 12 nonce),.string under,.string beside] w fun e w'=>e=.returned (.string (DO key nonce under beside))∧Below w.heap.size w w':=by
 have g0:ArrAt ((w.alloc (.cells (WA .u8 32 key) 22)).alloc (.cells (WA .u8 12 nonce) 26)) w.heap.size .u8 22 32 key:=heap_alloc2_old w _ _;have g1:ArrAt ((w.alloc (.cells (WA .u8 32 key) 22)).alloc (.cells (WA .u8 12 nonce) 26)) (w.heap.size+1) .u8 26 12 nonce:=heap_alloc2_new w _ _;have hB:Below w.heap.size w ((w.alloc (.cells (WA .u8 32 key) 22)).alloc (.cells (WA .u8 12 nonce) 26)):=((Below.refl _ w).alloc (by simp) _).alloc (by simp) _;have p1:=MP under;have p2:=MP beside;have HL1:Hid ((Fx beside).size+(Fx under).size≤9223372036854775807):=Hid.mk (by omega);have HL2:Hid ((Fx beside++Fx under).size+(mkS 8 (AM (beside.size:Int))).size≤9223372036854775807):=Hid.mk (by rw[ByteArray.size_append,Ar];omega);have HL3:Hid ((Fx beside++Fx under++mkS 8 (AM (beside.size:Int))).size+(mkS 8 (AM (under.size:Int))).size≤9223372036854775807):=Hid.mk (by rw[ByteArray.size_append,ByteArray.size_append,Ar,Ar];omega);have HL4:Hid ((marked under beside).size≤1152921504606846976):=Hid.mk (by unfold marked;rw[ByteArray.size_append,ByteArray.size_append,ByteArray.size_append,Ar,Ar];omega);have HB1:Hid (0≤(beside.size:Int)∧(beside.size:Int)<18446744073709551616):=Hid.mk (by omega);have HB2:Hid (0≤(under.size:Int)∧(under.size:Int)<18446744073709551616):=Hid.mk (by omega);have HO:=Hid.mk (RI key nonce);go_enter func129,ntmps129
 go_wp2_with (first|(refine Aq Af g0 (by rfl) ?_)|(refine Aq Ax g1 (by rfl) ?_))
 refine(Ld key nonce 0 _ hk hn (by unfold W32;omega)).mono ?_;rintro e v2 ⟨rfl,hb2⟩;replace hB:=hB.trans (hb2.mono hB.size);clear hb2 g0 g1;have gn:=fun o (ho:o=Obj.cells (WA .u8 64 fun _=>0) 183 (0,0))=>(by rw[ho];exact heap_alloc_new v2 _:ArrAt (v2.alloc o) v2.heap.size .u8 183 64 (fun _=>0))
 have hBS:=hB.size
 go_wp2_with (refine A1 Du (gn _ rfl) (by rfl) (by rfl) ?_;intro v3 gb o3;refine Hid.out ?_)
 replace hB:=(hB.alloc hBS _).trans (o3.below hBS);clear o3 gn;have gn:=fun o (ho:o=Obj.cells (WA .u8 32 fun _=>0) 22 (0,0))=>(by rw[ho];exact heap_alloc_new v3 _:ArrAt (v3.alloc o) v3.heap.size .u8 22 32 (fun _=>0))
 have hlb:=gb.lt;have hBS3:=hB.size;have HBA:=Hid.mk (hB.alloc hBS3);refine Hid.mk ?_;go_wp2_with fail;generalize v2.heap.size=bb at *;obtain⟨bo,hbo⟩:∃bo,bo=v3.heap.size:=⟨_,rfl⟩;rw[←hbo] at gn hlb ⊢;refine AJ (fun v=>ArrAt v bb .u8 183 64 (blk (ssq key 0 nonce 3))∧ArrAt v bo .u8 22 32 (fun _=>0)∧Below w.heap.size w v) ⟨gb.alloc _,gn _ rfl,HBA.out _⟩ ?_;clear gb gn hB HBA;rintro v0 ⟨gb,go,hB⟩;refine Ai (Below w.heap.size w) v0.heap.size
  [(bo,once (WA .u8 32 (fun _=>0)) 22 2 (WA .u8 32 (over (fun _=>0) 0 32 (blk (ssq key 0 nonce 3))))),(bb,AQ (WA .u8 64 (blk (ssq key 0 nonce 3))) 183)]
  [kv (.slice (some ⟨bo,0,none⟩) 32 32),kv (.slice (some ⟨bb,0,none⟩) 32 64),.val fun _=>True]
  [.none,.none,.base 0 1]
  [some 15,some 16,some 17]
  [(10,.pointer (some ⟨bo,0,none⟩)),(9,.pointer (some ⟨bb,0,none⟩))]
  [[],[],[.slot 0,.slot 1,.base 0 0,.base 1 0]]
  [.base 0 1] [15,16,17]
  rfl (by kernel_rfl) ⟨rfl,rfl,trivial⟩ (Below.drew hB) (Acg _) ⟨⟨go.lt,Al go⟩,⟨gb.lt,Al gb⟩,trivial⟩ ⟨⟨(show (bo:Nat)≠bb from by omega),trivial⟩,trivial,trivial⟩ (A8 hB.size ⟨by omega,by omega,trivial⟩)
  ⟨
   (fun _ _ ww _ _ _ fr _=>sV (Ci (v:=.pointer (some ⟨bo,0,none⟩)) rfl fr.1 (M2 bo ww))),
   (fun _ _ ww _ _ _ fr _=>sV (Dp (v:=.pointer (some ⟨bb,0,none⟩)) (u:=.int .i64 32) rfl fr.2.1 rfl (Abr bb ww))),
   sL fun _ k=>.inl ⟨trivial,fun K hK=>EH rfl k.1 k.2.1 (Ak k.2.2.1) (m:=32) rfl (by omega) (r:=blk (ssq key 0 nonce 3)) (fun q hq=>by rw[Acl];exact ArrAt.cell (Ak k.2.2.2.1) q (by omega)) (fun w2 hg ho=>hK _ _ ⟨⟨Ag ho,Al hg⟩,trivial⟩)⟩,
   trivial⟩ ?_
 intro vs own v1 hB1 hs1 kn inj;clear inj hs1 gb go hB;have go:ArrAt v1 bo .u8 22 32 (D7 key nonce):=Ak kn.1;have hB:=hB1;clear kn hB1;simp only[Am,Act.put,Aci,Acj,Ach];go_wp2_with fail;refine Ai (Below w.heap.size w) v1.heap.size
  [(bo,AQ (WA .u8 32 (D7 key nonce)) 22)]
  [kv (.agg (WA .u8 32 (D7 key nonce))),kv (.string beside),kv (.string (Fx beside)),kv (.string under),kv (.string (Fx under)),kv (.string (Fx beside++Fx under)),kv (.string beside),kv (.int .i64 (beside.size:Int)),kv (.int .u64 (beside.size:Int)),kv (.string (mkS 8 (AM (beside.size:Int)))),kv (.string (Fx beside++Fx under++mkS 8 (AM (beside.size:Int)))),kv (.string under),kv (.int .i64 (under.size:Int)),kv (.int .u64 (under.size:Int)),kv (.string (mkS 8 (AM (under.size:Int)))),kv (.string (marked under beside)),kv (.agg (WA .u8 16 (AM (Dh (D7 key nonce) (txt (marked under beside)) (marked under beside).size)))),kp (WA .u8 16 fun _=>0) 54 18 (WA .u8 16 (AM (Dh (D7 key nonce) (txt (marked under beside)) (marked under beside).size))),.val fun _=>True]
  [.none,.none,.none,.none,.none,.none,.none,.none,.none,.none,.none,.none,.none,.none,.none,.none,.none,.none,.own 17 1]
  [some 18,some 19,some 20,some 21,some 22,some 23,some 24,some 25,some 26,some 27,some 28,some 29,some 30,some 31,some 32,some 33,some 34,some 11,none]
  [(10,.pointer (some ⟨bo,0,none⟩)),(3,.string beside),(2,.string under)]
  [[.base 0 0],[],[.slot 1],[],[.slot 3],[.slot 2,.slot 4],[],[.slot 6],[.slot 7],[.slot 8],[.slot 5,.slot 9],[],[.slot 11],[.slot 12],[.slot 13],[.slot 10,.slot 14],[.slot 0,.slot 15],[],[.slot 17,.cont 17 0,.slot 16]]
  [.slot 17,.cont 17 1] [18,19,20,21,22,23,24,25,26,27,28,29,30,31,32,33,34,11]
  rfl (by kernel_rfl) ⟨rfl,rfl,rfl,trivial⟩ (Below.drew hB) (Acg _) ⟨⟨go.lt,Al go⟩,trivial⟩ ⟨trivial,trivial⟩ (A8 hB.size ⟨by omega,trivial⟩)
  ⟨
   sL fun f k=>sV (AA rfl Af (Ak k.1) f.1),
   sL fun f _=>sV (Ab rfl f.2.1),
   (fun _ _ ww _ _ _ _ kn=>.inl ⟨trivial,fun K hK=>AH Lg rfl (BI kn.1) (KX beside ww (by omega)) (fun w' hb=>hK _ _ ⟨Ac hb,rfl⟩)⟩),
   sL fun f _=>sV (Ab rfl f.2.2.1),
   (fun _ _ ww _ _ _ _ kn=>.inl ⟨trivial,fun K hK=>AH Lg rfl (BI kn.1) (KX under ww (by omega)) (fun w' hb=>hK _ _ ⟨Ac hb,rfl⟩)⟩),
   sL fun _ k=>sV (Be rfl k.1 k.2.1 HL1.out),
   sL fun f _=>sV (Ab rfl f.2.1),
   sL fun _ k=>sV (GW rfl k.1),
   sL fun _ k=>sV (AF rfl k.1 (NK HB1.out _)),
   (fun _ _ ww _ _ _ _ kn=>.inl ⟨trivial,fun K hK=>AH Ij rfl (BI kn.1) (Ih _ ww HB1.out) (fun w' hb=>hK _ _ ⟨Ac hb,rfl⟩)⟩),
   sL fun _ k=>sV (Be rfl k.1 k.2.1 HL2.out),
   sL fun f _=>sV (Ab rfl f.2.2.1),
   sL fun _ k=>sV (GW rfl k.1),
   sL fun _ k=>sV (AF rfl k.1 (NK HB2.out _)),
   (fun _ _ ww _ _ _ _ kn=>.inl ⟨trivial,fun K hK=>AH Ij rfl (BI kn.1) (Ih _ ww HB2.out) (fun w' hb=>hK _ _ ⟨Ac hb,rfl⟩)⟩),
   sL fun _ k=>sV (Be rfl k.1 k.2.1 HL3.out),
   (fun _ _ ww _ _ _ _ kn=>.inl ⟨trivial,fun K hK=>AH T6 rfl (CT kn.1 kn.2.1) (VB (D7 key nonce) (marked under beside) ww HO.out HL4.out) (fun w' hb=>hK _ _ ⟨Ac hb,rfl⟩)⟩),
   sL fun _ _=>.inl ⟨trivial,fun K hK=>Bi Aao rfl (fun w' hb hg=>hK _ _ ⟨Ac hb,_,Acg _,rfl,Al hg⟩)⟩,
   sL fun _ k=>.inl ⟨trivial,fun K hK=>Bs rfl Ck k.1.1 k.2.2.1 (Ak k.2.1) (fun w2 hg ho=>hK _ _ ⟨Ag ho,Al hg,trivial⟩)⟩,
   trivial⟩ ?_
 intro vs4 own v4 hB4 hs4 kn inj;clear inj hs4 go hB;obtain⟨k1,k2,-⟩:=kn;obtain⟨e11,hb11,_⟩:=k1;change vs4 11=_ at e11;have gM:ArrAt v4 (own 17) .u8 54 16 (AM (Dh (D7 key nonce) (txt (marked under beside)) (marked under beside).size)):=Ak k2;clear k2;simp only[Am,Act.put,Aci,Acj,Ach,e11];generalize own 17=b11 at *;have hcv:(convert 81 9 (.slice (some ⟨b11,0,none⟩) 16 16)).run prog v4=.ok (.string (DO key nonce under beside)) v4:=AD 16 b11 16 v4 16 _ gM.row (fun j _=>Ej _ j) rfl;go_wp2_with fail
 go_ret
 exact⟨rfl,hB4⟩
theorem Aap(n:Int)(i:Nat)(hi:i<8)(w:World):(binOp .shr 98 (.int .u64 n) (.int .i64 (8*(i:Int)))).run prog w=.ok (.int .u64 (n/256 ^ i)) w:=by
 match i,hi with
 | 0,_=>simp[go_sem]
 | 1,_=>simp[go_sem]
 | 2,_=>simp[go_sem]
 | 3,_=>simp[go_sem]
 | 4,_=>simp[go_sem]
 | 5,_=>simp[go_sem]
 | 6,_=>simp[go_sem]
 | 7,_=>simp[go_sem]
theorem T7{a:Act}{o:Oper}{w:World}{x y:Operand}(ho:o.op=.binOp .shr 98 x y 3){n:Int}{i:Nat}(hx:a.eval x=.int .u64 n)(hy:a.eval y=.int .i64 (8*(i:Int)))(hi:i<8):(execOp a.eval o).run prog w=.ok (.value (.int .u64 (n/256 ^ i))) w:=CM ho hx hy rfl (Aap n i hi w)
theorem Lh(n:Int)(w:World):Calls prog 152 #[.int .u64 n] w fun e w'=>e=.returned (.agg (WA .u8 8 (AM n)))∧Below w.heap.size w w':=by
 have g0:ArrAt ((w.alloc (.cells (WA .u8 8 fun _=>0) 177)).alloc (.cells (WA .u8 8 fun _=>0) 177)) w.heap.size .u8 177 8 (fun _=>0):=heap_alloc2_old w _ _;have g1:ArrAt ((w.alloc (.cells (WA .u8 8 fun _=>0) 177)).alloc (.cells (WA .u8 8 fun _=>0) 177)) (w.heap.size+1) .u8 177 8 (fun _=>0):=heap_alloc2_new w _ _;have hB:Below w.heap.size w ((w.alloc (.cells (WA .u8 8 fun _=>0) 177)).alloc (.cells (WA .u8 8 fun _=>0) 177)):=((Below.refl _ w).alloc (by simp) _).alloc (by simp) _;go_enter func152,ntmps152;go_wp2_with fail
 go_loopg [5] 8 (fun gm iv v=>∃i:Nat,Hid (gm+i=8)∧iv=.int .i64 (i:Int)∧ArrAt v w.heap.size .u8 177 8 (fun _=>0)∧ArrAt v (w.heap.size+1) .u8 177 8 (fun j=>if j<i then AM n j else 0)∧Below w.heap.size w v)
 case atStart=>exact⟨0,Hid.mk rfl,rfl,g0,g1.congr (fun j _=>by rw[if_neg (by omega)]),hB⟩
 case round =>
  clear g0 g1 hB;obtain⟨i,HI,rfl,g0,g1,hB⟩:=hrel;have hi8:i≤8:=by have:=HI.out;omega
  by_cases hil:i<8
  ·have c0:=g1.cell i hil
   have f0:=g1.free i
   have g2:=Hid.mk ((g1.set i (n/256 ^ i%256) hil).congr (s':=fun j=>if j<i+1 then AM n j else 0) (fun j _=>by
    unfold upd
    by_cases e:j=i
    ·subst e;rw[if_pos rfl,if_pos (by omega)];rfl
    ·rw[if_neg e]
     show (if j<i then AM n j else 0)=_
     by_cases h:j<i
     ·rw[if_pos h,if_pos (by omega)]
     ·rw[if_neg h,if_neg (by omega)]))
   have g3:=Hid.mk (g0.only (only_set (w:=wr) (g:=w.heap.size+1) (i:=i) (v:=.int .u8 (n/256 ^ i%256))) (by omega))
   go_wp2_with (refine Ae rfl (T7 rfl (by rfl) (by rfl) hil) ?_)
   generalize n/256 ^ i=q at *;go_wp2_with fail
   go_roundg (8-(i+1))
   case rel=>exact⟨i+1,Hid.mk (by omega),by go_num,g3.out,g2.out,Below.setCell (p:=⟨w.heap.size+1,i,none⟩) hB (by simp) _⟩
   case measure=>have:=HI.out;omega
  ·have hi2:i=8:=by omega
   subst hi2;replace g1:=g1.congr (s':=AM n) (fun j hj=>by rw[if_pos hj])
   go_wp2_with (first|(refine Aq NI g1 (by rfl) ?_)|(refine A1 NI g0 (by rfl) (by rfl) ?_;intro v4 g4 o4;refine Hid.out ?_))
   refine Hid.mk ?_;go_wp2_with fail;exact bodyPost_ret (AE results152 NI g4 (by rfl)) rfl ⟨rfl,hB.trans (o4.below (Acg _))⟩
def JX(s:ByteArray):ByteArray:=mkS ((16-s.size%16)%16) (fun _=>0)
theorem YB(s:ByteArray):Fx s=s++JX s:=rfl
theorem T8:∀n,n<16→(⟨#[0,0,0,0,0,0,0,0,0,0,0,0,0,0,0,0]⟩:ByteArray).extract n 16=mkS (16-n) (fun _=>0):=by decide +kernel
theorem OP(s:ByteArray)(w:World)(hs:s.size≤1152921504606846976):Calls prog 187 #[.string s] w fun e w'=>e=.returned (.string (JX s))∧Below w.heap.size w w':=by
 obtain⟨k,hk⟩:∃k,s.size%16=k:=⟨_,rfl⟩;have hk16:k<16:=by omega
 have h1:(s.size:Int).tmod 16=(k:Int):=by rw[Acz (by omega)];omega
 have h1e:(s.size:Int)%16=(k:Int):=by omega
 by_cases hz:k=0
 ·have HE:Hid (JX s=ByteArray.empty):=Hid.mk (by unfold JX;rw[hk,hz];rfl)
  subst hz;go_enter func187,ntmps187;go_wp2_with fail;rw[HE.out]
  go_ret
  exact⟨rfl,Below.refl _ _⟩
 ·have HE:Hid (JX s=mkS (16-k) (fun _=>0)):=Hid.mk (by unfold JX;rw[hk,Nat.mod_eq_of_lt (by omega)])
  have hkI:¬(k:Int)=0:=by omega
  go_enter func187,ntmps187
  go_wp2_with (refine Ae rfl (DC (v:=.string ⟨#[0,0,0,0,0,0,0,0,0,0,0,0,0,0,0,0]⟩) (u:=.int .i64 (k:Int)) rfl (by rfl) (by rfl) (XX _ k _ (by show k≤16;omega))) ?_)
  rw[HE.out]
  go_ret
  exact⟨congrArg (fun x=>Ending.returned (.string x)) (T8 k hk16),Below.refl _ _⟩
theorem Qo{a:Act}{o:Oper}{w:World}{x:Operand}{ty t:TypeId}{b n m:Nat}{s:Nat→Int}(ho:o.op=.load ty x)(hA:Da ty m)(hg:ArrAt w b .u8 t n s)(hf:m≤n)(hx:a.eval x=.pointer (some ⟨b,0,none⟩)):(execOp a.eval o).run prog w=.ok (.value (.agg (WA .u8 m s))) w:=
 Ao ho hA hx (fun j v hv=>by
  obtain⟨hj,rfl⟩:=B6 hv;rw[Acl];exact hg.cell j (by omega))
theorem Qp{a:Act}{o:Oper}{w:World}{x:Operand}{t:TypeId}(ho:o.op=.sliceToArrayPointer t x){v r:Value}(hx:a.eval x=v)(hr:(Instr.arrayAt t v).run prog w=.ok r w):(execOp a.eval o).run prog w=.ok (.value r) w:=by
 unfold execOp;simp[ho,hx,hr]
theorem YC(b f cap:Nat)(w:World):(Instr.arrayAt 22 (.slice (some ⟨b,f,none⟩) 32 cap)).run prog w=.ok (.pointer (some ⟨b,f,none⟩)) w:=by simp[go_sem,Instr.arrayAt]
theorem Mk(key nonce:Nat→Int)(w:World)(hk:Byts 32 key)(hn:Byts 12 nonce):Calls prog 189 #[.agg (WA .u8 32 key),.agg (WA .u8 12 nonce)] w fun e w'=>e=.returned (.agg (WA .u8 32 (D7 key nonce)))∧Below w.heap.size w w':=by
 have g0:ArrAt (((w.alloc (.cells (WA .u8 32 key) 22)).alloc (.cells (WA .u8 12 nonce) 26)).alloc (.cells (WA .u8 32 fun _=>0) 22)) w.heap.size .u8 22 32 key:=A6 w _ _ _;have g1:ArrAt (((w.alloc (.cells (WA .u8 32 key) 22)).alloc (.cells (WA .u8 12 nonce) 26)).alloc (.cells (WA .u8 32 fun _=>0) 22)) (w.heap.size+1) .u8 26 12 nonce:=AB w _ _ _;have g2:ArrAt (((w.alloc (.cells (WA .u8 32 key) 22)).alloc (.cells (WA .u8 12 nonce) 26)).alloc (.cells (WA .u8 32 fun _=>0) 22)) (w.heap.size+1+1) .u8 22 32 (fun _=>0):=AK w _ _ _;have hB:Below w.heap.size w (((w.alloc (.cells (WA .u8 32 key) 22)).alloc (.cells (WA .u8 12 nonce) 26)).alloc (.cells (WA .u8 32 fun _=>0) 22)):=(((Below.refl _ w).alloc (by simp) _).alloc (by simp) _).alloc (by simp;omega) _;go_enter func189,ntmps189
 go_wp2_with (first|(refine Aq Af g0 (by rfl) ?_)|(refine Aq Ax g1 (by rfl) ?_))
 refine(Tx key nonce 0 _ hk hn (by unfold W32;omega)).mono ?_;rintro e v2 ⟨rfl,hb2⟩;replace hB:=hB.trans (hb2.mono hB.size);have hz:w.heap.size+1+1<v2.heap.size:=(g2.kept hb2).lt;replace g2:=(g2.kept hb2);clear hb2 g0 g1;have gn:=fun o (ho:o=Obj.cells (WA .u8 64 fun _=>0) 183 (0,0))=>(by rw[ho];exact heap_alloc_new v2 _:ArrAt (v2.alloc o) v2.heap.size .u8 183 64 (fun _=>0))
 have hBS:=hB.size
 go_wp2_with (refine A1 Du (gn _ rfl) (by rfl) (by rfl) ?_;intro v3 gb o3;refine Hid.out ?_)
 replace hB:=(hB.alloc hBS _).trans (o3.below hBS);replace g2:=(g2.alloc _).only o3 (by omega);clear o3 gn;refine Hid.mk ?_
 go_wp2_with (first|(refine Ae rfl (Qp rfl (by rfl) (YC _ 0 64 _)) ?_)|(refine Ae rfl (Qo rfl Af gb (by omega) (by rfl)) ?_)|(refine A1 Af g2 (by rfl) (by rfl) ?_;intro v4 g4 o4;refine Hid.out ?_))
 refine Hid.mk ?_;go_wp2_with fail
 have hE:WA .u8 32 (blk (ssq key 0 nonce 3))=WA .u8 32 (D7 key nonce):=KE (fun j hj=>by
  unfold D7 over;rw[if_pos (by omega),Nat.sub_zero])
 exact bodyPost_ret (AE results189 Af g4 (by rfl)) rfl ⟨by rw[hE],hB.trans (o4.below (by omega))⟩
def pc6(ps:Nat→ByteArray)(j:Nat):ByteArray:=if j<4 then (if j%2=0 then ps (j/2) else JX (ps (j/2))) else mkS 8 (AM ((ps (j-4)).size:Int))
theorem Abs(under beside:ByteArray):AY (pc6 (Ib beside under)) 6=marked under beside:=by
 simp[AY,pc6,Ib,marked,YB,ByteArray.append_assoc]
theorem VS(ps:Nat→ByteArray)(i:Nat)(hi:i<2):∀j,j<2→Ib (ps i) (JX (ps i)) j=pc6 ps (2*i+j):=fun j hj=>by
 unfold pc6;rw[if_pos (by omega)]
 match j,hj with
 | 0,_=>rw[if_pos (by omega),show (2*i+0)/2=i by omega];rfl
 | 1,_=>rw[if_neg (by omega),show (2*i+1)/2=i by omega];rfl
theorem YE(ps:Nat→ByteArray)(i:Nat):∀j,j<1→FJ (mkS 8 (AM ((ps i).size:Int))) j=pc6 ps (4+i+j):=fun j hj=>by
 obtain rfl:j=0:=by omega
 unfold pc6;rw[if_neg (by omega),show 4+i+0-4=i by omega];rfl
theorem Qq(key nonce:Nat→Int)(pv:Value)(ps:Nat→ByteArray)(w:World)(hk:Byts 32 key)(hn:Byts 12 nonce)(hv:Strs w pv 2 ps)(hps:∀j,j<2→(ps j).size≤1152921504606846976):Calls prog 150 #[.agg (WA .u8 32 key),.agg (WA .u8 12 nonce),pv] w fun e w'=>e=.returned (.agg (WA .u8 16 (AM (Dh (D7 key nonce) (txt (AY (pc6 ps) 6)) (AY (pc6 ps) 6).size))))∧Below w.heap.size w w':=by
 have g0:ArrAt (((w.alloc (.cells (WA .u8 32 key) 22)).alloc (.cells (WA .u8 12 nonce) 26)).alloc (.cells (WA .u8 16 fun _=>0) 54)) w.heap.size .u8 22 32 key:=A6 w _ _ _;have g1:ArrAt (((w.alloc (.cells (WA .u8 32 key) 22)).alloc (.cells (WA .u8 12 nonce) 26)).alloc (.cells (WA .u8 16 fun _=>0) 54)) (w.heap.size+1) .u8 26 12 nonce:=AB w _ _ _;have g2:ArrAt (((w.alloc (.cells (WA .u8 32 key) 22)).alloc (.cells (WA .u8 12 nonce) 26)).alloc (.cells (WA .u8 16 fun _=>0) 54)) (w.heap.size+1+1) .u8 54 16 (fun _=>0):=AK w _ _ _;have hB:Below w.heap.size w (((w.alloc (.cells (WA .u8 32 key) 22)).alloc (.cells (WA .u8 12 nonce) 26)).alloc (.cells (WA .u8 16 fun _=>0) 54)):=(((Below.refl _ w).alloc (by simp) _).alloc (by simp) _).alloc (by simp;omega) _;have hv0:=hv.below hB;obtain⟨pa,pcp,rfl,_⟩:=hv;go_enter func150,ntmps150;go_wp2_with fail;obtain⟨u,hu⟩:∃u,u=(((w.alloc (.cells (WA .u8 32 key) 22)).alloc (.cells (WA .u8 12 nonce) 26)).alloc (.cells (WA .u8 16 fun _=>0) 54)):=⟨_,rfl⟩;rw[←hu] at g0 g1 g2 hB hv0
 go_loopg [7,15] 2 (fun gm sv iv v=>∃i:Nat,Hid (gm+i=2)∧iv=.int .i64 (i:Int)∧v.ownsRow u.heap.size 9 1 sv (2*i) (Gm (2*i) (pc6 ps))∧Below u.heap.size u v)
 case atStart=>exact⟨0,Hid.mk rfl,rfl,World.ownsRow_nil _ _ _ _,by rw[hu];exact Below.refl _ _⟩
 case round =>
  clear hu;obtain⟨i,HI,rfl,hO,hb⟩:=hrel;have hin:i≤2:=by have:=HI.out;omega
  by_cases hil:i<2
  ·obtain⟨a',c',e,hp⟩:=hv0.below hb
   simp only[Value.slice.injEq] at e;obtain⟨rfl,_,rfl⟩:=e;obtain⟨p,rfl,hc⟩:=hp (by omega);have hc1:=hc i hil;clear hc hp;go_wp2_with fail;refine(OP (ps i) _ (hps i hil)).mono ?_;rintro e v1 ⟨rfl,hb1⟩;replace hO:=Bp hO hb1;replace hb:=hb.trans (hb1.mono hb.size);clear hb1 hc1
   go_wp2_with (refine KJ (by rfl) (by rfl) ?_;intro v2 s2 hb2 hz2;refine Hid.out ?_)
   replace hO:=Bp hO hb2;replace hb:=hb.trans (hb2.mono hb.size);clear hb2 hz2;have HBS:=Hid.mk hb.size;refine Hid.mk ?_
   go_wp2_with (refine Rq (by rfl) (by rfl) hO s2 (by omega) HBS.out ?_;intro v' v3 hO3 hb3;refine Hid.out ?_)
   rw[Ou (VS ps i hil)] at hO3;replace hb:=hb.trans hb3;clear hO hb3 s2;refine Hid.mk ?_;go_wp2_with fail
   go_roundg (2-(i+1))
   case rel=>exact⟨i+1,Hid.mk (by omega),by go_num,hO3,hb⟩
   case measure=>have:=HI.out;omega
  ·have hi2:i=2:=by omega
   subst hi2;go_wp2_with fail
   go_loopg [7,28] 2 (fun gm sv iv v=>∃i:Nat,Hid (gm+i=2)∧iv=.int .i64 (i:Int)∧v.ownsRow u.heap.size 9 1 sv (4+i) (Gm (4+i) (pc6 ps))∧Below u.heap.size u v)
   case atStart=>exact⟨0,Hid.mk rfl,rfl,hO,hb⟩
   case round =>
    clear hO hb HI hil hin;obtain⟨i,HI,rfl,hO,hb⟩:=hrel;have hin:i≤2:=by have:=HI.out;omega
    by_cases hil:i<2
    ·obtain⟨a',c',e,hp⟩:=hv0.below hb
     simp only[Value.slice.injEq] at e;obtain⟨rfl,_,rfl⟩:=e;obtain⟨p,rfl,hc⟩:=hp (by omega);have hc1:=hc i hil;have hsz:0≤((ps i).size:Int)∧((ps i).size:Int)<18446744073709551616:=by have:=hps i hil;omega
     clear hc hp
     go_wp2_with (refine Ae rfl (AF rfl (by rfl) (NK hsz _)) ?_)
     refine(Lh _ _).mono ?_;rintro e v1 ⟨rfl,hb1⟩;replace hO:=Bp hO hb1;replace hb:=hb.trans (hb1.mono hb.size);clear hb1 hc1;have gn:=fun o (ho:o=Obj.cells (WA .u8 8 fun _=>0) 177 (0,0))=>(by rw[ho];exact heap_alloc_new v1 _:ArrAt (v1.alloc o) v1.heap.size .u8 177 8 (fun _=>0))
     have HBS:=Hid.mk hb.size
     go_wp2_with (refine A1 NI (gn _ rfl) (by rfl) (by rfl) ?_;intro v2 gb o2;refine Hid.out ?_)
     have hb2:Below v1.heap.size v1 v2:=((Below.refl _ v1).alloc (Acg _) _).trans (o2.below (Acg _));replace hO:=Bp hO hb2;replace hb:=hb.trans (hb2.mono hb.size);clear hb2 o2 gn HBS;have hcv:=AD 8 v1.heap.size 8 v2 8 (AM ((ps i).size:Int)) gb.row (fun j _=>Ej _ j) rfl;refine Hid.mk ?_
     go_wp2_with (refine Gz (by rfl) ?_;intro v3 s3 hb3 hz3;refine Hid.out ?_)
     replace hO:=Bp hO hb3;replace hb:=hb.trans (hb3.mono hb.size);clear hb3 hz3 hcv gb;have HBS:=Hid.mk hb.size;refine Hid.mk ?_
     go_wp2_with (refine Rq (by rfl) (by rfl) hO s3 (by omega) HBS.out ?_;intro v' v4 hO4 hb4;refine Hid.out ?_)
     rw[Ou (YE ps i)] at hO4;replace hb:=hb.trans hb4;clear hO hb4 s3;refine Hid.mk ?_;go_wp2_with fail
     go_roundg (2-(i+1))
     case rel=>exact⟨i+1,Hid.mk (by omega),by go_num,hO4,hb⟩
     case measure=>have:=HI.out;omega
    ·have hi2:i=2:=by omega
     subst hi2;have gk:=g0.kept hb;have gq:=g1.kept hb;have gr:=g2.kept hb;have hSt:=UT hO (by omega);replace hB:=hB.trans (hb.mono hB.size);clear hb hO g0 g1 g2
     go_wp2_with (first|(refine Aq Af gk (by rfl) ?_)|(refine Aq Ax gq (by rfl) ?_))
     refine(Mk key nonce _ hk hn).mono ?_;rintro e v5 ⟨rfl,hb5⟩;replace gr:=gr.kept hb5;replace hB:=hB.trans (hb5.mono hB.size);replace hSt:=hSt.below hb5;clear hb5 gk gq;go_wp2_with fail;refine(Y3 (D7 key nonce) _ 6 (pc6 ps) _ (RI key nonce) hSt (by decide)).mono ?_;rintro e v6 ⟨rfl,hb6⟩;replace gr:=gr.kept hb6;replace hB:=hB.trans (hb6.mono hB.size);clear hb6 hSt
     go_wp2_with (refine A1 Ck gr (by rfl) (by rfl) ?_;intro v7 g7 o7;refine Hid.out ?_)
     refine Hid.mk ?_;go_wp2_with fail;exact bodyPost_ret (AE results150 Ck g7 (by rfl)) rfl ⟨rfl,hB.trans (o7.below (by omega))⟩
def Bt(key nonce:Nat→Int)(text:ByteArray):ByteArray:=mkS text.size (EQ key nonce 1 text)
def Ek(key nonce:Nat→Int)(text beside:ByteArray):ByteArray:=Bt key nonce text++DO key nonce (Bt key nonce text) beside
theorem D8(key nonce:Nat→Int)(text:ByteArray):(Bt key nonce text).size=text.size:=Ar _ _
theorem Ik(key nonce:Nat→Int)(under beside:ByteArray):(DO key nonce under beside).size=16:=Ar _ _
theorem E6(key nonce:Nat→Int)(text beside:ByteArray):(Ek key nonce text beside).size=text.size+16:=by
 unfold Ek;rw[ByteArray.size_append,D8,Ik]
theorem T9(key nonce:Nat→Int)(text beside:ByteArray)(w:World)(hk:Byts 32 key)(hn:Byts 12 nonce)(ht:text.size≤140737488355328)(hbs:beside.size≤281474976710656):Calls prog 85 #[.agg (WA .u8 32 key),.agg (WA .u8 12 nonce),.string text,.string beside] w fun e w'=>e=.returned (.string (Ek key nonce text beside))∧Below w.heap.size w w':=by
 have g0:ArrAt ((w.alloc (.cells (WA .u8 32 key) 22)).alloc (.cells (WA .u8 12 nonce) 26)) w.heap.size .u8 22 32 key:=heap_alloc2_old w _ _;have g1:ArrAt ((w.alloc (.cells (WA .u8 32 key) 22)).alloc (.cells (WA .u8 12 nonce) 26)) (w.heap.size+1) .u8 26 12 nonce:=heap_alloc2_new w _ _;have hB:Below w.heap.size w ((w.alloc (.cells (WA .u8 32 key) 22)).alloc (.cells (WA .u8 12 nonce) 26)):=((Below.refl _ w).alloc (by simp) _).alloc (by simp) _;have hS:=fun w=>JW key nonce 1 text w hk hn (by unfold W32;omega) ht
 have hM:=fun w=>MQ key nonce (Bt key nonce text) beside w hk hn (by rw[D8];omega) hbs
 have HE:Hid (Bt key nonce text++DO key nonce (Bt key nonce text) beside=Ek key nonce text beside):=Hid.mk rfl;have hL1:(Bt key nonce text).size+(DO key nonce (Bt key nonce text) beside).size≤9223372036854775807:=by rw[D8,Ik];omega
 change ∀w,Calls _ _ _ w fun e w'=>e=.returned (.string (Bt key nonce text))∧Below w.heap.size w w' at hS
 generalize DO key nonce (Bt key nonce text) beside=m at *;generalize Bt key nonce text=u at *;clear ht;go_enter func85,ntmps85
 go_wp2_with (first|(refine Aq Af g0 (by rfl) ?_)|(refine Aq Ax g1 (by rfl) ?_))
 refine(hS _).mono ?_;rintro e v1 ⟨rfl,hb⟩;replace g0:=g0.kept hb;replace g1:=g1.kept hb;replace hB:=hB.trans (hb.mono hB.size);clear hb
 go_wp2_with (first|(refine Aq Af g0 (by rfl) ?_)|(refine Aq Ax g1 (by rfl) ?_))
 refine(hM _).mono ?_;rintro e v2 ⟨rfl,hb⟩;replace hB:=hB.trans (hb.mono hB.size);clear hb
 go_wp2_with (refine Ae rfl (Be rfl (by rfl) (by rfl) hL1) ?_)
 rw[HE.out]
 go_ret
 exact⟨rfl,hB⟩
theorem Li(args:Array Value)(w:World):(callFunc 129 args).run prog w=.ok (.enter 129 args) w:=by kernel_rfl
theorem NL(args:Array Value)(w:World):(callFunc 128 args).run prog w=.ok (.enter 128 args) w:=by kernel_rfl
theorem Qr{a:Act}{o:Oper}{w:World}{x y:Operand}(ho:o.op=.binOp .lss 3 x y 3){m n:Int}(hx:a.eval x=.int .i64 m)(hy:a.eval y=.int .i64 n)(h:m<n):(execOp a.eval o).run prog w=.ok (.value (.bool true)) w:=BN ho rfl hx hy (by simp[go_sem,h])
theorem Lj{a:Act}{o:Oper}{w:World}{x y:Operand}(ho:o.op=.binOp .lss 3 x y 3){m n:Int}(hx:a.eval x=.int .i64 m)(hy:a.eval y=.int .i64 n)(h:n≤m):(execOp a.eval o).run prog w=.ok (.value (.bool false)) w:=BN ho rfl hx hy (by simp[go_sem];omega)
def Bc(key nonce:Nat→Int)(box beside:ByteArray):ByteArray×Int:=
 if 16≤box.size∧box.extract (box.size-16) box.size=DO key nonce (box.extract 0 (box.size-16)) beside then (Bt key nonce (box.extract 0 (box.size-16)),0) else (ByteArray.empty,13)
theorem TA(key nonce:Nat→Int)(box beside:ByteArray)(w:World)(hk:Byts 32 key)(hn:Byts 12 nonce)(ht:box.size≤140737488355328)(hbs:beside.size≤281474976710656):Calls prog 90 #[.agg (WA .u8 32 key),.agg (WA .u8 12 nonce),.string box,.string beside] w fun e w'=>e=.returned (.tuple #[.string (Bc key nonce box beside).1,.int .i64 (Bc key nonce box beside).2])∧Below w.heap.size w w':=by
 have g0:ArrAt ((w.alloc (.cells (WA .u8 32 key) 22)).alloc (.cells (WA .u8 12 nonce) 26)) w.heap.size .u8 22 32 key:=heap_alloc2_old w _ _;have g1:ArrAt ((w.alloc (.cells (WA .u8 32 key) 22)).alloc (.cells (WA .u8 12 nonce) 26)) (w.heap.size+1) .u8 26 12 nonce:=heap_alloc2_new w _ _;have hB:Below w.heap.size w ((w.alloc (.cells (WA .u8 32 key) 22)).alloc (.cells (WA .u8 12 nonce) 26)):=((Below.refl _ w).alloc (by simp) _).alloc (by simp) _
 by_cases h16:16≤box.size
 ·obtain⟨n,hnn⟩:∃n,box.size=n+16:=⟨box.size-16,by omega⟩
  have hnI:(box.size:Int)-16=(n:Int):=by omega
  have hnw:=Cg (n:=(n:Int)) (by omega) (by omega);have HNB:Hid (n≤box.size):=Hid.mk (by omega);have hU:=Mz box n (by omega);have HMK:Hid (∀ww:World,Calls prog 129 #[.agg (WA .u8 32 key),.agg (WA .u8 12 nonce),.string (box.extract 0 n),.string beside] ww fun e w'=>e=.returned (.string (DO key nonce (box.extract 0 n) beside))∧Below ww.heap.size ww w'):=Hid.mk (fun ww=>MQ key nonce _ beside ww hk hn (by omega) hbs);have HST:Hid (∀ww:World,Calls prog 128 #[.agg (WA .u8 32 key),.int .u32 1,.agg (WA .u8 12 nonce),.string (box.extract 0 n)] ww fun e w'=>e=.returned (.string (Bt key nonce (box.extract 0 n)))∧Below ww.heap.size ww w'):=Hid.mk (fun ww=>JW key nonce 1 _ ww hk hn (by unfold W32;omega) (by omega));have hsub:box.size-16=n:=by omega
  by_cases heq:(box.extract n box.size)=DO key nonce (box.extract 0 n) beside
  ·have HEQ:=Hid.mk heq
   have HR:Hid (Bc key nonce box beside=(Bt key nonce (box.extract 0 n),0)):=Hid.mk (by unfold Bc;rw[hsub,if_pos ⟨h16,heq⟩]);clear heq hsub hU hnn;go_enter func90,ntmps90;go_wp2_with fail;refine AJ (fun v=>ArrAt v w.heap.size .u8 22 32 key∧ArrAt v (w.heap.size+1) .u8 26 12 nonce∧Below w.heap.size w v) ⟨g0,g1,hB⟩ ?_;clear g0 g1 hB;rintro v0 ⟨g0,g1,hB⟩;have HG0:Hid (∀u,Below v0.heap.size v0 u→ArrAt u w.heap.size .u8 22 32 key):=Hid.mk (fun u hu=>g0.kept hu);have HG1:Hid (∀u,Below v0.heap.size v0 u→ArrAt u (w.heap.size+1) .u8 26 12 nonce):=Hid.mk (fun u hu=>g1.kept hu);refine Ai (Below v0.heap.size v0) v0.heap.size
     ([]:List (Nat×Cont))
     [kv (.int .i64 (n:Int)),kv (.bool false),kv (.bool false),kv (.string box),kv (.int .i64 (n:Int)),kv (.string (box.extract n box.size)),kv (.agg (WA .u8 32 key)),kv (.agg (WA .u8 12 nonce)),kv (.string box),kv (.int .i64 (n:Int)),kv (.string (box.extract 0 n)),kv (.string beside),kv (.string (DO key nonce (box.extract 0 n) beside)),kv (.bool false),kv (.bool false)]
     []
     [some 14,some 15,some 16,some 17,some 18,some 19,some 20,some 21,some 22,some 23,some 24,some 25,some 26,some 27,some 28]
     [(10,.int .i64 (n:Int)),(2,.string box),(4,.pointer (some ⟨w.heap.size,0,none⟩)),(5,.pointer (some ⟨(w.heap.size+1),0,none⟩)),(3,.string beside)]
     [[],[.slot 0],[.slot 1],[.slot 2],[.slot 2],[.slot 2,.slot 3,.slot 4],[.slot 2],[.slot 2],[.slot 2],[.slot 2],[.slot 2,.slot 8,.slot 9],[.slot 2],[.slot 2,.slot 6,.slot 7,.slot 10,.slot 11],[.slot 2,.slot 5,.slot 12],[.slot 2,.slot 13]]
     [.slot 14] [14,15,16,17,18,19,20,21,22,23,24,25,26,27,28]
     rfl (by kernel_rfl) ⟨rfl,rfl,rfl,rfl,rfl,trivial⟩ (Below.refl _ v0).drew (Acg _) trivial trivial (A8 (Acg _) trivial)
     ⟨
      sL fun f _=>sV (Ab rfl f.1),
      sL fun _ k=>sV (Lj rfl k.1 rfl (by omega)),
      sL fun _ k=>sV (Ab rfl k.1),
      sL fun f k=>sG k.1 (Ab rfl f.2.1),
      sL fun f k=>sG k.1 (Ab rfl f.1),
      (fun _ _ ww _ _ _ _ kn=>sG kn.1 (DC rfl kn.2.1 kn.2.2.1 (XX box n ww HNB.out))),
      (fun _ _ ww _ hS _ fr kn=>sG kn.1 (AA rfl Af (HG0.out ww hS) fr.2.2.1)),
      (fun _ _ ww _ hS _ fr kn=>sG kn.1 (AA rfl Ax (HG1.out ww hS) fr.2.2.2.1)),
      sL fun f k=>sG k.1 (Ab rfl f.2.1),
      sL fun f k=>sG k.1 (Ab rfl f.1),
      (fun _ _ ww _ _ _ _ kn=>sG kn.1 (Dp rfl kn.2.1 kn.2.2.1 (Sv box n ww HNB.out))),
      sL fun f k=>sG k.1 (Ab rfl f.2.2.2.2.1),
      (fun _ _ ww _ _ _ _ kn=>.inl ⟨kn.1,fun K hK=>AH Li rfl (Iy kn.2.1 kn.2.2.1 kn.2.2.2.1 kn.2.2.2.2.1) (HMK.out ww) (fun w' hb=>hK _ _ ⟨Ac hb,rfl⟩)⟩),
      sL fun _ k=>sG k.1 (Js rfl k.2.1 k.2.2.1 HEQ.out),
      sL fun _ k=>sV (KD rfl k.1 k.2.1),
      trivial⟩ ?_
   intro vs own v5 hB5 hs5 kn inj;clear inj hs5;replace g0:=g0.kept hB5;replace g1:=g1.kept hB5;replace hB:=hB.trans (hB5.mono hB.size);have e28:vs 28=.bool false:=kn.1;clear kn hB5 HG0 HG1;simp only[Am,Act.put,Aci,Acj,Ach,e28];go_wp2_with fail;refine AJ (fun v=>ArrAt v w.heap.size .u8 22 32 key∧ArrAt v (w.heap.size+1) .u8 26 12 nonce∧Below w.heap.size w v) ⟨g0,g1,hB⟩ ?_;clear g0 g1 hB;rintro v0 ⟨g0,g1,hB⟩;have HG0:Hid (∀u,Below v0.heap.size v0 u→ArrAt u w.heap.size .u8 22 32 key):=Hid.mk (fun u hu=>g0.kept hu);have HG1:Hid (∀u,Below v0.heap.size v0 u→ArrAt u (w.heap.size+1) .u8 26 12 nonce):=Hid.mk (fun u hu=>g1.kept hu);refine Ai (Below v0.heap.size v0) v0.heap.size
     ([]:List (Nat×Cont))
     [kv (.agg (WA .u8 32 key)),kv (.agg (WA .u8 12 nonce)),kv (.string box),kv (.int .i64 (n:Int)),kv (.string (box.extract 0 n)),kv (.string (Bt key nonce (box.extract 0 n))),kv (.string (Bt key nonce (box.extract 0 n))),kv (.int .i64 0)]
     []
     [some 29,some 30,some 31,some 32,some 33,some 34,some 8,some 9]
     [(4,.pointer (some ⟨w.heap.size,0,none⟩)),(5,.pointer (some ⟨(w.heap.size+1),0,none⟩)),(2,.string box),(10,.int .i64 (n:Int))]
     [[],[],[],[],[.slot 2,.slot 3],[.slot 0,.slot 1,.slot 4],[.slot 5],[]]
     [.slot 6,.slot 7] [29,30,31,32,33,34,8,9]
     rfl (by kernel_rfl) ⟨rfl,rfl,rfl,rfl,trivial⟩ (Below.refl _ v0).drew (Acg _) trivial trivial (A8 (Acg _) trivial)
     ⟨
      (fun _ _ ww _ hS _ fr _=>sV (AA rfl Af (HG0.out ww hS) fr.1)),
      (fun _ _ ww _ hS _ fr _=>sV (AA rfl Ax (HG1.out ww hS) fr.2.1)),
      sL fun f _=>sV (Ab rfl f.2.2.1),
      sL fun f _=>sV (Ab rfl f.2.2.2.1),
      (fun _ _ ww _ _ _ _ kn=>sV (Dp rfl kn.1 kn.2.1 (Sv box n ww HNB.out))),
      (fun _ _ ww _ _ _ _ kn=>.inl ⟨trivial,fun K hK=>AH NL rfl (Iy kn.1 rfl kn.2.1 kn.2.2.1) (HST.out ww) (fun w' hb=>hK _ _ ⟨Ac hb,rfl⟩)⟩),
      sL fun _ k=>sV (Av rfl k.1),
      sL fun _ _=>sV (Av (v:=.int .i64 0) rfl rfl),
      trivial⟩ ?_
   intro vs own v5 hB5 hs5 kn inj;have e8:vs 8=_:=kn.1;have e9:vs 9=_:=kn.2.1;simp only[Am,Act.put,Aci,Acj,Ach,e8,e9];go_wp2_with fail;exact bodyPost_ret (v:=.tuple #[.string (Bt key nonce (box.extract 0 n)),.int .i64 0]) (Cq results90 (by rfl) (by rfl)) rfl ⟨by rw[HR.out],hB.trans (hB5.mono hB.size)⟩
  ·have HEQ:=Hid.mk heq
   have HR:Hid (Bc key nonce box beside=(ByteArray.empty,13)):=Hid.mk (by unfold Bc;rw[hsub,if_neg (fun h=>heq h.2)]);clear heq hsub hU hnn;go_enter func90,ntmps90;go_wp2_with fail;refine AJ (fun v=>ArrAt v w.heap.size .u8 22 32 key∧ArrAt v (w.heap.size+1) .u8 26 12 nonce∧Below w.heap.size w v) ⟨g0,g1,hB⟩ ?_;clear g0 g1 hB;rintro v0 ⟨g0,g1,hB⟩;have HG0:Hid (∀u,Below v0.heap.size v0 u→ArrAt u w.heap.size .u8 22 32 key):=Hid.mk (fun u hu=>g0.kept hu);have HG1:Hid (∀u,Below v0.heap.size v0 u→ArrAt u (w.heap.size+1) .u8 26 12 nonce):=Hid.mk (fun u hu=>g1.kept hu);refine Ai (Below v0.heap.size v0) v0.heap.size
     ([]:List (Nat×Cont))
     [kv (.int .i64 (n:Int)),kv (.bool false),kv (.bool false),kv (.string box),kv (.int .i64 (n:Int)),kv (.string (box.extract n box.size)),kv (.agg (WA .u8 32 key)),kv (.agg (WA .u8 12 nonce)),kv (.string box),kv (.int .i64 (n:Int)),kv (.string (box.extract 0 n)),kv (.string beside),kv (.string (DO key nonce (box.extract 0 n) beside)),kv (.bool true),kv (.bool true)]
     []
     [some 14,some 15,some 16,some 17,some 18,some 19,some 20,some 21,some 22,some 23,some 24,some 25,some 26,some 27,some 28]
     [(10,.int .i64 (n:Int)),(2,.string box),(4,.pointer (some ⟨w.heap.size,0,none⟩)),(5,.pointer (some ⟨(w.heap.size+1),0,none⟩)),(3,.string beside)]
     [[],[.slot 0],[.slot 1],[.slot 2],[.slot 2],[.slot 2,.slot 3,.slot 4],[.slot 2],[.slot 2],[.slot 2],[.slot 2],[.slot 2,.slot 8,.slot 9],[.slot 2],[.slot 2,.slot 6,.slot 7,.slot 10,.slot 11],[.slot 2,.slot 5,.slot 12],[.slot 2,.slot 13]]
     [.slot 14] [14,15,16,17,18,19,20,21,22,23,24,25,26,27,28]
     rfl (by kernel_rfl) ⟨rfl,rfl,rfl,rfl,rfl,trivial⟩ (Below.refl _ v0).drew (Acg _) trivial trivial (A8 (Acg _) trivial)
     ⟨
      sL fun f _=>sV (Ab rfl f.1),
      sL fun _ k=>sV (Lj rfl k.1 rfl (by omega)),
      sL fun _ k=>sV (Ab rfl k.1),
      sL fun f k=>sG k.1 (Ab rfl f.2.1),
      sL fun f k=>sG k.1 (Ab rfl f.1),
      (fun _ _ ww _ _ _ _ kn=>sG kn.1 (DC rfl kn.2.1 kn.2.2.1 (XX box n ww HNB.out))),
      (fun _ _ ww _ hS _ fr kn=>sG kn.1 (AA rfl Af (HG0.out ww hS) fr.2.2.1)),
      (fun _ _ ww _ hS _ fr kn=>sG kn.1 (AA rfl Ax (HG1.out ww hS) fr.2.2.2.1)),
      sL fun f k=>sG k.1 (Ab rfl f.2.1),
      sL fun f k=>sG k.1 (Ab rfl f.1),
      (fun _ _ ww _ _ _ _ kn=>sG kn.1 (Dp rfl kn.2.1 kn.2.2.1 (Sv box n ww HNB.out))),
      sL fun f k=>sG k.1 (Ab rfl f.2.2.2.2.1),
      (fun _ _ ww _ _ _ _ kn=>.inl ⟨kn.1,fun K hK=>AH Li rfl (Iy kn.2.1 kn.2.2.1 kn.2.2.2.1 kn.2.2.2.2.1) (HMK.out ww) (fun w' hb=>hK _ _ ⟨Ac hb,rfl⟩)⟩),
      sL fun _ k=>sG k.1 (FH rfl k.2.1 k.2.2.1 HEQ.out),
      sL fun _ k=>sV (KD rfl k.1 k.2.1),
      trivial⟩ ?_
   intro vs own v5 hB5 hs5 kn inj;clear inj hs5;replace g0:=g0.kept hB5;replace g1:=g1.kept hB5;replace hB:=hB.trans (hB5.mono hB.size);have e28:vs 28=.bool true:=kn.1;clear kn hB5 HG0 HG1;simp only[Am,Act.put,Aci,Acj,Ach,e28];go_wp2_with fail;exact bodyPost_ret (v:=.tuple #[.string ByteArray.empty,.int .i64 13]) (Cq results90 (by rfl) (by rfl)) rfl ⟨by rw[HR.out],hB⟩
 ·have HR:Hid (Bc key nonce box beside=(ByteArray.empty,13)):=Hid.mk (by unfold Bc;rw[if_neg (fun h=>h16 h.1)])
  have hnw:=Cg (n:=(box.size:Int)-16) (by omega) (by omega);go_enter func90,ntmps90;go_wp2_with fail;refine AJ (fun v=>ArrAt v w.heap.size .u8 22 32 key∧ArrAt v (w.heap.size+1) .u8 26 12 nonce∧Below w.heap.size w v) ⟨g0,g1,hB⟩ ?_;clear g0 g1 hB;rintro v0 ⟨g0,g1,hB⟩;have HG0:Hid (∀u,Below v0.heap.size v0 u→ArrAt u w.heap.size .u8 22 32 key):=Hid.mk (fun u hu=>g0.kept hu);have HG1:Hid (∀u,Below v0.heap.size v0 u→ArrAt u (w.heap.size+1) .u8 26 12 nonce):=Hid.mk (fun u hu=>g1.kept hu);refine Ai (Below v0.heap.size v0) v0.heap.size
    ([]:List (Nat×Cont))
    [kv (.int .i64 ((box.size:Int)-16)),kv (.bool true),kv (.bool true),.val fun _=>True,.val fun _=>True,.val fun _=>True,.val fun _=>True,.val fun _=>True,.val fun _=>True,.val fun _=>True,.val fun _=>True,.val fun _=>True,.val fun _=>True,.val fun _=>True,kv (.bool true)]
    []
    [some 14,some 15,some 16,some 17,some 18,some 19,some 20,some 21,some 22,some 23,some 24,some 25,some 26,some 27,some 28]
    [(10,.int .i64 ((box.size:Int)-16))]
    [[],[.slot 0],[.slot 1],[.slot 2],[.slot 2],[.slot 2],[.slot 2],[.slot 2],[.slot 2],[.slot 2],[.slot 2],[.slot 2],[.slot 2],[.slot 2],[.slot 2]]
    [.slot 14] [14,15,16,17,18,19,20,21,22,23,24,25,26,27,28]
    rfl (by kernel_rfl) ⟨rfl,trivial⟩ (Below.refl _ v0).drew (Acg _) trivial trivial (A8 (Acg _) trivial)
    ⟨
     sL fun f _=>sV (Ab rfl f.1),
     sL fun _ k=>sV (Qr rfl k.1 rfl (by omega)),
     sL fun _ k=>sV (Ab rfl k.1),
     sL fun _ k=>.inr ⟨.inl k.1,Touch.refl _ _,trivial⟩,
     sL fun _ k=>.inr ⟨.inl k.1,Touch.refl _ _,trivial⟩,
     sL fun _ k=>.inr ⟨.inl k.1,Touch.refl _ _,trivial⟩,
     sL fun _ k=>.inr ⟨.inl k.1,Touch.refl _ _,trivial⟩,
     sL fun _ k=>.inr ⟨.inl k.1,Touch.refl _ _,trivial⟩,
     sL fun _ k=>.inr ⟨.inl k.1,Touch.refl _ _,trivial⟩,
     sL fun _ k=>.inr ⟨.inl k.1,Touch.refl _ _,trivial⟩,
     sL fun _ k=>.inr ⟨.inl k.1,Touch.refl _ _,trivial⟩,
     sL fun _ k=>.inr ⟨.inl k.1,Touch.refl _ _,trivial⟩,
     sL fun _ k=>.inr ⟨.inl k.1,Touch.refl _ _,trivial⟩,
     sL fun _ k=>.inr ⟨.inl k.1,Touch.refl _ _,trivial⟩,
     sL fun _ k=>sV (Ss (v:=.bool true) rfl k.1 rfl),
     trivial⟩ ?_
  intro vs own v5 hB5 hs5 kn inj;clear inj hs5;replace g0:=g0.kept hB5;replace g1:=g1.kept hB5;replace hB:=hB.trans (hB5.mono hB.size);have e28:vs 28=.bool true:=kn.1;clear kn hB5 HG0 HG1;simp only[Am,Act.put,Aci,Acj,Ach,e28];go_wp2_with fail;exact bodyPost_ret (v:=.tuple #[.string ByteArray.empty,.int .i64 13]) (Cq results90 (by rfl) (by rfl)) rfl ⟨by rw[HR.out],hB⟩
theorem OQ(d:Int)(x y:UInt8)(hd:0≤d∧d<256):∃e:Int,bits .or .u8 d (bits .xor .u8 (x.toNat:Int) (y.toNat:Int))=e∧(0≤e∧e<256)∧(e=0↔d=0∧x=y):=by
 refine⟨_,rfl,?_⟩;have hx:x.toNat<256:=x.toNat_lt;have hy:y.toNat<256:=y.toNat_lt;have h1:=Nat.xor_lt_two_pow (x:=x.toNat) (y:=y.toNat) (n:=8) hx hy;have h2:=Nat.or_lt_two_pow (x:=d.toNat) (y:=x.toNat ^^^ y.toNat) (n:=8) (by omega) h1;rw[u8_xor_nat _ _ hx hy,u8_or _ _ hd.1 hd.2 (by omega) (by omega),AcB];refine⟨⟨by omega,by omega⟩,?_⟩
 have h3:((d.toNat ||| (x.toNat ^^^ y.toNat):Nat):Int)=0↔d.toNat=0∧x.toNat=y.toNat:=by
  rw[Int.natCast_eq_zero,Nat.or_eq_zero_iff,xor_zero]
 rw[h3,UInt8.toNat_inj];exact⟨fun h=>⟨by omega,h.2⟩,fun h=>⟨by omega,h.2⟩⟩
theorem VT(a b:ByteArray)(w:World)(ha:a.size≤1152921504606846976):Calls prog 63 #[.string a,.string b] w fun e w'=>e=.returned (.bool (decide (a=b)))∧Below w.heap.size w w':=by
 by_cases hl:a.size=b.size
 ·have hlI:(a.size:Int)=(b.size:Int):=by omega
  have hB:=Below.refl w.heap.size w;go_enter func63,ntmps63;go_wp2_with fail
  go_loopg [5,14] a.size (fun gm dv iv v=>∃(i:Nat) (d:Int),Hid (gm+i=a.size)∧iv=.int .i64 (i:Int)∧dv=.int .u8 d∧(0≤d∧d<256)∧Hid (d=0↔∀j,j<i→txt a j=txt b j)∧Below w.heap.size w v)
  case atStart=>exact⟨0,0,Hid.mk rfl,rfl,rfl,by omega,Hid.mk ⟨fun _ j hj=>by omega,fun _=>rfl⟩,hB⟩
  case round =>
   clear hB;obtain⟨i,d,HI,rfl,rfl,hd,HD,hB⟩:=hrel;have hi8:i≤a.size:=by have:=HI.out;omega
   by_cases hil:i<a.size
   ·have hib:i<b.size:=by omega
    obtain⟨e,he,he2,he3⟩:=OQ d a[i] b[i] hd
    have HE:Hid (e=0↔∀j,j<i+1→txt a j=txt b j):=Hid.mk (by
     have t1:(a[i]=b[i])↔txt a i=txt b i:=by
      rw[←C3 hil,←C3 hib];constructor
      ·intro h;rw[h]
      ·intro h;exact UInt8.toNat_inj.1 (by omega)
     rw[he3,HD.out,t1];constructor
     ·rintro⟨h1,h2⟩ j hj
      by_cases e:j=i
      ·rw[e];exact h2
      ·exact h1 j (by omega)
     ·intro h
      exact⟨fun j hj=>h j (by omega),h i (by omega)⟩)
    clear he3 HD;go_wp2_with fail
    go_region
    clear he;replace hB:=hB.drew;generalize wr.drew=wr2 at *;go_wp2_with fail
    go_roundg (a.size-(i+1))
    case rel=>exact⟨i+1,e,Hid.mk (by omega),by go_num,rfl,he2,HE,hB⟩
    case measure=>have:=HI.out;omega
   ·have hi2:i=a.size:=by omega
    subst hi2
    have hE:(d==0)=decide (a=b):=by
     show decide (d=0)=_;refine decide_eq_decide.2 (HD.out.trans ⟨fun h=>Ot hl h,fun h=>?_⟩);rw[h];exact fun _ _=>rfl
    clear HD;go_wp2_with fail
    go_ret
    exact⟨by rw[←hE];rfl,hB⟩
 ·have hlI:¬(a.size:Int)=(b.size:Int):=by omega
  have hE:decide (a=b)=false:=decide_eq_false (fun h=>hl (by rw[h]));have HE:=Hid.mk hE;clear hE hl;go_enter func63,ntmps63;go_wp2_with fail
  go_ret
  exact⟨by rw[HE.out];rfl,Below.refl _ _⟩
theorem ZN(key nonce:Nat→Int)(under beside:ByteArray)(pv:Value)(w:World)(hk:Byts 32 key)(hn:Byts 12 nonce)(hv:Strs w pv 2 (Ib beside under))(hu:under.size≤1152921504606846976)(hb:beside.size≤1152921504606846976):Calls prog 150 #[.agg (WA .u8 32 key),.agg (WA .u8 12 nonce),pv] w fun e w'=>e=.returned (.agg (WA .u8 16 (AM (Dh (D7 key nonce) (txt (marked under beside)) (marked under beside).size))))∧Below w.heap.size w w':=by
 have h:=Qq key nonce pv (Ib beside under) w hk hn hv (fun j hj=>by
  match j,hj with
  | 0,_=>exact hb
  | 1,_=>exact hu)
 rw[Abs] at h;exact h
theorem VU(key nonce:Nat→Int)(text beside:ByteArray)(w:World)(hk:Byts 32 key)(hn:Byts 12 nonce)(ht:text.size≤140737488355328)(hbs:beside.size≤281474976710656):Calls prog 120 #[.agg (WA .u8 32 key),.agg (WA .u8 12 nonce),.string text,.string beside] w fun e w'=>e=.returned (.string (Ek key nonce text beside))∧Below w.heap.size w w':=by
 have g0:ArrAt ((w.alloc (.cells (WA .u8 32 key) 22)).alloc (.cells (WA .u8 12 nonce) 26)) w.heap.size .u8 22 32 key:=heap_alloc2_old w _ _;have g1:ArrAt ((w.alloc (.cells (WA .u8 32 key) 22)).alloc (.cells (WA .u8 12 nonce) 26)) (w.heap.size+1) .u8 26 12 nonce:=heap_alloc2_new w _ _;have hB:Below w.heap.size w ((w.alloc (.cells (WA .u8 32 key) 22)).alloc (.cells (WA .u8 12 nonce) 26)):=((Below.refl _ w).alloc (by simp) _).alloc (by simp) _;have hS:=fun w=>Lf key nonce 1 text w hk hn (by unfold W32;omega) ht
 have hM:=fun pv w hv=>ZN key nonce (Bt key nonce text) beside pv w hk hn hv (by rw[D8];omega) (by omega)
 have HE:Hid (Bt key nonce text++DO key nonce (Bt key nonce text) beside=Ek key nonce text beside):=Hid.mk rfl;have hL1:(Bt key nonce text).size+(DO key nonce (Bt key nonce text) beside).size≤9223372036854775807:=by rw[D8,Ik];omega
 change ∀w,Calls _ _ _ w fun e w'=>e=.returned (.string (Bt key nonce text))∧Below w.heap.size w w' at hS
 unfold DO at HE hL1;have hmb:=Ej (Dh (D7 key nonce) (txt (marked (Bt key nonce text) beside)) (marked (Bt key nonce text) beside).size);generalize AM (Dh (D7 key nonce) (txt (marked (Bt key nonce text) beside)) (marked (Bt key nonce text) beside).size)=m at *;generalize Bt key nonce text=u at *;clear ht;go_enter func120,ntmps120
 go_wp2_with (first|(refine Aq Af g0 (by rfl) ?_)|(refine Aq Ax g1 (by rfl) ?_))
 refine(hS _).mono ?_;rintro e v1 ⟨rfl,hb⟩;replace g0:=g0.kept hb;replace g1:=g1.kept hb;replace hB:=hB.trans (hb.mono hB.size);clear hb hS
 go_wp2_with (first|(refine Aq Af g0 (by rfl) ?_)|(refine Aq Ax g1 (by rfl) ?_)|(refine KJ (by rfl) (by rfl) ?_;intro v2 s2 hb2 hz2;refine Hid.out ?_))
 replace hB:=hB.trans (hb2.mono hB.size);clear hb2 hz2 g0 g1;refine Hid.mk ?_;go_wp2_with fail;refine(hM _ _ s2).mono ?_;rintro e v3 ⟨rfl,hb3⟩;replace hB:=hB.trans (hb3.mono hB.size);clear hb3 s2 hM;have gn:=fun o (ho:o=Obj.cells (WA .u8 16 fun _=>0) 54 (0,0))=>(by rw[ho];exact heap_alloc_new v3 _:ArrAt (v3.alloc o) v3.heap.size .u8 54 16 (fun _=>0))
 have HBS:=Hid.mk hB.size
 go_wp2_with (refine A1 Ck (gn _ rfl) (by rfl) (by rfl) ?_;intro v4 g4 o4;refine Hid.out ?_)
 replace hB:=(hB.alloc HBS.out _).trans (o4.below HBS.out);clear o4 gn HBS;have hcv:=AD 16 v3.heap.size 16 v4 16 m g4.row (fun j _=>hmb j) rfl;refine Hid.mk ?_
 go_wp2_with (refine Ae rfl (Be rfl (by rfl) (by rfl) hL1) ?_)
 rw[HE.out]
 go_ret
 exact⟨rfl,hB⟩
theorem Lk{a:Act}{o:Oper}{w:World}{x:Operand}(ho:o.op=.binOp .sub 3 x (.const (.int .i64 16)) 3){m n:Int}(hx:a.eval x=.int .i64 m)(h:m-16=n∧-9223372036854775808≤n∧n<9223372036854775808):(execOp a.eval o).run prog w=.ok (.value (.int .i64 n)) w:=
 BN ho rfl hx rfl (by simp[go_sem,h.1,Cg h.2.1 h.2.2])
theorem OR(key nonce:Nat→Int)(box beside:ByteArray)(w:World)(hk:Byts 32 key)(hn:Byts 12 nonce)(ht:box.size≤140737488355328)(hbs:beside.size≤281474976710656):Calls prog 132 #[.agg (WA .u8 32 key),.agg (WA .u8 12 nonce),.string box,.string beside] w fun e w'=>e=.returned (.tuple #[.string (Bc key nonce box beside).1,.int .i64 (Bc key nonce box beside).2])∧Below w.heap.size w w':=by
 have g0:ArrAt ((w.alloc (.cells (WA .u8 32 key) 22)).alloc (.cells (WA .u8 12 nonce) 26)) w.heap.size .u8 22 32 key:=heap_alloc2_old w _ _;have g1:ArrAt ((w.alloc (.cells (WA .u8 32 key) 22)).alloc (.cells (WA .u8 12 nonce) 26)) (w.heap.size+1) .u8 26 12 nonce:=heap_alloc2_new w _ _;have hB:Below w.heap.size w ((w.alloc (.cells (WA .u8 32 key) 22)).alloc (.cells (WA .u8 12 nonce) 26)):=((Below.refl _ w).alloc (by simp) _).alloc (by simp) _
 by_cases h16:16≤box.size
 ·obtain⟨n,hnn⟩:∃n,box.size=n+16:=⟨box.size-16,by omega⟩
  have HNI:Hid ((box.size:Int)-16=(n:Int)∧-9223372036854775808≤(n:Int)∧(n:Int)<9223372036854775808):=Hid.mk (by omega);have HNB:Hid (n≤box.size):=Hid.mk (by omega);have hU:=Mz box n (by omega);have hsub:box.size-16=n:=by omega
  have HO:Hid (Bc key nonce box beside=if (box.extract n box.size)=DO key nonce (box.extract 0 n) beside then (Bt key nonce (box.extract 0 n),0) else (ByteArray.empty,13)):=Hid.mk (by
   unfold Bc;rw[hsub]
   by_cases e:(box.extract n box.size)=DO key nonce (box.extract 0 n) beside
   ·rw[if_pos ⟨h16,e⟩,if_pos e]
   ·rw[if_neg (fun h=>e h.2),if_neg e])
  have hlI:¬(box.size:Int)<16:=by omega
  have hM:=fun pv w hv=>ZN key nonce (box.extract 0 n) beside pv w hk hn hv (by omega) (by omega)
  have hST:∀ww:World,Calls prog 149 #[.agg (WA .u8 32 key),.int .u32 1,.agg (WA .u8 12 nonce),.string (box.extract 0 n)] ww fun e w'=>e=.returned (.string (Bt key nonce (box.extract 0 n)))∧Below ww.heap.size ww w':=fun ww=>Lf key nonce 1 _ ww hk hn (by unfold W32;omega) (by omega)
  clear hU hsub hnn;go_enter func132,ntmps132;go_wp2_with fail;refine AJ (fun v=>ArrAt v w.heap.size .u8 22 32 key∧ArrAt v (w.heap.size+1) .u8 26 12 nonce∧Below w.heap.size w v) ⟨g0,g1,hB⟩ ?_;clear g0 g1 hB;rintro v0 ⟨g0,g1,hB⟩;refine Ai (Below v0.heap.size v0) v0.heap.size
   ([]:List (Nat×Cont))
   [kv (.string box),kv (.string box),kv (.int .i64 (box.size:Int)),kv (.int .i64 (n:Int)),kv (.string (box.extract 0 n)),kv (.string box),kv (.string box),kv (.int .i64 (box.size:Int)),kv (.int .i64 (n:Int)),kv (.string (box.extract n box.size)),kv (.string (box.extract 0 n)),kv (.string (box.extract n box.size))]
   []
   [some 16,some 17,some 18,some 19,some 20,some 21,some 22,some 23,some 24,some 25,some 10,some 11]
   [(2,.string box)]
   [[],[],[.slot 1],[.slot 2],[.slot 0,.slot 3],[],[],[.slot 6],[.slot 7],[.slot 5,.slot 8],[.slot 4],[.slot 9]]
   [.slot 10,.slot 11] [16,17,18,19,20,21,22,23,24,25,10,11]
   rfl (by kernel_rfl) ⟨rfl,trivial⟩ (Below.refl _ v0).drew (Acg _) trivial trivial (A8 (Acg _) trivial)
   ⟨
    sL fun f _=>sV (Ab rfl f.1),
    sL fun f _=>sV (Ab rfl f.1),
    sL fun _ k=>sV (GW rfl k.1),
    sL fun _ k=>sV (Lk rfl k.1 HNI.out),
    (fun _ _ ww _ _ _ _ kn=>sV (Dp rfl kn.1 kn.2.1 (Sv box n ww HNB.out))),
    sL fun f _=>sV (Ab rfl f.1),
    sL fun f _=>sV (Ab rfl f.1),
    sL fun _ k=>sV (GW rfl k.1),
    sL fun _ k=>sV (Lk rfl k.1 HNI.out),
    (fun _ _ ww _ _ _ _ kn=>sV (DC rfl kn.1 kn.2.1 (XX box n ww HNB.out))),
    sL fun _ k=>sV (Av rfl k.1),
    sL fun _ k=>sV (Av rfl k.1),
    trivial⟩ ?_
  intro vs own v5 hB5 hs5 kn inj;clear inj hs5;replace g0:=g0.kept hB5;replace g1:=g1.kept hB5;replace hB:=hB.trans (hB5.mono hB.size);have e10:vs 10=.string (box.extract 0 n):=kn.1;have e11:vs 11=.string (box.extract n box.size):=kn.2.1;clear kn hB5;simp only[Am,Act.put,Aci,Acj,Ach,e10,e11];clear e10 e11 HNI HNB;unfold DO at HO;have hmb:=Ej (Dh (D7 key nonce) (txt (marked (box.extract 0 n) beside)) (marked (box.extract 0 n) beside).size);generalize AM (Dh (D7 key nonce) (txt (marked (box.extract 0 n) beside)) (marked (box.extract 0 n) beside).size)=m at *;generalize Bt key nonce (box.extract 0 n)=ut at *;generalize (box.extract 0 n)=u at *;generalize (box.extract n box.size)=x at *
  go_wp2_with (first|(refine Aq Af g0 (by rfl) ?_)|(refine Aq Ax g1 (by rfl) ?_)|(refine KJ (by rfl) (by rfl) ?_;intro v2 s2 hb2 hz2;refine Hid.out ?_))
  replace hB:=hB.trans (hb2.mono hB.size);replace g0:=g0.kept hb2;replace g1:=g1.kept hb2;clear hb2 hz2;refine Hid.mk ?_;go_wp2_with fail;refine(hM _ _ s2).mono ?_;rintro e v3 ⟨rfl,hb3⟩;replace hB:=hB.trans (hb3.mono hB.size);replace g0:=g0.kept hb3;replace g1:=g1.kept hb3;clear hb3 s2 hM;have gn:=fun o (ho:o=Obj.cells (WA .u8 16 fun _=>0) 54 (0,0))=>(by rw[ho];exact heap_alloc_new v3 _:ArrAt (v3.alloc o) v3.heap.size .u8 54 16 (fun _=>0))
  have HBS:=Hid.mk hB.size;have hz0:=g0.lt;have hz1:=g1.lt
  go_wp2_with (refine A1 Ck (gn _ rfl) (by rfl) (by rfl) ?_;intro v4 g4 o4;refine Hid.out ?_)
  replace hB:=(hB.alloc HBS.out _).trans (o4.below HBS.out);replace g0:=(g0.alloc _).only o4 (by omega);replace g1:=(g1.alloc _).only o4 (by omega);clear o4 gn HBS hz0 hz1;have hcv:=AD 16 v3.heap.size 16 v4 16 m g4.row (fun j _=>hmb j) rfl;refine Hid.mk ?_;go_wp2_with fail;refine(VT (mkS 16 m) x _ (by rw[Ar];omega)).mono ?_;rintro e v6 ⟨rfl,hb6⟩;replace hB:=hB.trans (hb6.mono hB.size);replace g0:=g0.kept hb6;replace g1:=g1.kept hb6;clear hb6 g4 hcv
  by_cases heq:x=mkS 16 m
  ·have hd:decide (mkS 16 m=x)=true:=decide_eq_true heq.symm
   have HR:Hid (Bc key nonce box beside=(ut,0)):=Hid.mk (by rw[HO.out,if_pos heq]);rw[hd];clear heq hd HO
   go_wp2_with (first|(refine Aq Af g0 (by rfl) ?_)|(refine Aq Ax g1 (by rfl) ?_))
   refine(hST _).mono ?_;rintro e v7 ⟨rfl,hb7⟩;replace hB:=hB.trans (hb7.mono hB.size);clear hb7 g0 g1 hST;go_wp2_with fail;exact bodyPost_ret (v:=.tuple #[.string ut,.int .i64 0]) (Cq results132 (by rfl) (by rfl)) rfl ⟨by rw[HR.out],hB⟩
  ·have hd:decide (mkS 16 m=x)=false:=decide_eq_false (fun h=>heq h.symm)
   have HR:Hid (Bc key nonce box beside=(ByteArray.empty,13)):=Hid.mk (by rw[HO.out,if_neg heq]);rw[hd];clear heq hd HO hST;go_wp2_with fail;exact bodyPost_ret (v:=.tuple #[.string ByteArray.empty,.int .i64 13]) (Cq results132 (by rfl) (by rfl)) rfl ⟨by rw[HR.out],hB⟩
 ·have HR:Hid (Bc key nonce box beside=(ByteArray.empty,13)):=Hid.mk (by unfold Bc;rw[if_neg (fun h=>h16 h.1)])
  have hlI:(box.size:Int)<16:=by omega
  go_enter func132,ntmps132;go_wp2_with fail;exact bodyPost_ret (v:=.tuple #[.string ByteArray.empty,.int .i64 13]) (Cq results132 (by rfl) (by rfl)) rfl ⟨by rw[HR.out],hB⟩
theorem VW(b:Nat)(w:World):(Instr.sliceAt 26 (.pointer (some ⟨b,0,none⟩)) (some (.int .i64 4)) none none).run prog w=.ok (.slice (some ⟨b,4,none⟩) 8 8) w:=by simp[go_sem]
theorem AbW(b:Nat)(w:World):(Instr.sliceAt 177 (.pointer (some ⟨b,0,none⟩)) none none none).run prog w=.ok (.slice (some ⟨b,0,none⟩) 8 8) w:=by simp[go_sem]
theorem Abt(b:Nat)(w:World):(Instr.sliceAt 26 (.pointer (some ⟨b,0,none⟩)) none none none).run prog w=.ok (.slice (some ⟨b,0,none⟩) 12 12) w:=by simp[go_sem]
def MR(end8:Nat→Int):Nat→Int:=over (fun _=>0) 4 8 end8
theorem YF{end8:Nat→Int}(h:Byts 8 end8):Byts 12 (MR end8):=fun i hi=>by
 unfold MR over
 split
 ·exact h _ (by omega)
 ·show 0≤(0:Int)∧(0:Int)<256
  omega
theorem OS(end8:Nat→Int)(w:World):Calls prog 151 #[.agg (WA .u8 8 end8)] w fun e w'=>e=.returned (.agg (WA .u8 12 (MR end8)))∧Below w.heap.size w w':=by
 have g0:ArrAt (((w.alloc (.cells (WA .u8 8 end8) 177)).alloc (.cells (WA .u8 12 fun _=>0) 26)).alloc (.cells (WA .u8 12 fun _=>0) 26)) w.heap.size .u8 177 8 end8:=A6 w _ _ _;have g1:ArrAt (((w.alloc (.cells (WA .u8 8 end8) 177)).alloc (.cells (WA .u8 12 fun _=>0) 26)).alloc (.cells (WA .u8 12 fun _=>0) 26)) (w.heap.size+1) .u8 26 12 (fun _=>0):=AB w _ _ _;have g2:ArrAt (((w.alloc (.cells (WA .u8 8 end8) 177)).alloc (.cells (WA .u8 12 fun _=>0) 26)).alloc (.cells (WA .u8 12 fun _=>0) 26)) (w.heap.size+1+1) .u8 26 12 (fun _=>0):=AK w _ _ _;have hB:Below w.heap.size w (((w.alloc (.cells (WA .u8 8 end8) 177)).alloc (.cells (WA .u8 12 fun _=>0) 26)).alloc (.cells (WA .u8 12 fun _=>0) 26)):=(((Below.refl _ w).alloc (by simp) _).alloc (by simp) _).alloc (by simp;omega) _;go_enter func151,ntmps151;go_wp2_with fail;refine AJ (fun v=>ArrAt v (w.heap.size+1+1) .u8 26 12 (fun _=>0)∧ArrAt v w.heap.size .u8 177 8 (end8)∧ArrAt v (w.heap.size+1) .u8 26 12 (fun _=>0)∧Below w.heap.size w v) ⟨g2,g0,g1,hB⟩ ?_;clear g2 g0 g1 hB;rintro v0 ⟨g2,g0,g1,hB⟩;refine Ai (Below w.heap.size w) v0.heap.size
  [((w.heap.size+1+1),once (WA .u8 12 (fun _=>0)) 26 2 (WA .u8 12 (over (fun _=>0) 4 8 (end8)))),(w.heap.size,AQ (WA .u8 8 (end8)) 177),((w.heap.size+1),AQ (WA .u8 12 (fun _=>0)) 26)]
  [kv (.slice (some ⟨(w.heap.size+1+1),4,none⟩) 8 8),kv (.slice (some ⟨w.heap.size,0,none⟩) 8 8),.val fun _=>True]
  [.none,.none,.base 0 1]
  [some 4,some 5,some 6]
  [(3,.pointer (some ⟨(w.heap.size+1+1),0,none⟩)),(1,.pointer (some ⟨w.heap.size,0,none⟩))]
  [[],[],[.slot 0,.slot 1,.base 0 0,.base 1 0]]
  [.base 0 1,.base 1 0,.base 2 0] [4,5,6]
  rfl (by kernel_rfl) ⟨rfl,rfl,trivial⟩ (Below.drew hB) (Acg _) ⟨⟨g2.lt,Al g2⟩,⟨g0.lt,Al g0⟩,⟨g1.lt,Al g1⟩,trivial⟩ ⟨⟨(show ((w.heap.size+1+1):Nat)≠w.heap.size from by omega),(show ((w.heap.size+1+1):Nat)≠(w.heap.size+1) from by omega),trivial⟩,⟨trivial,trivial⟩,trivial,trivial⟩ (A8 hB.size ⟨by omega,by omega,by omega,trivial⟩)
  ⟨
   (fun _ _ ww _ _ _ fr _=>sV (DC (v:=.pointer (some ⟨(w.heap.size+1+1),0,none⟩)) (u:=.int .i64 4) rfl fr.1 rfl (VW (w.heap.size+1+1) ww))),
   (fun _ _ ww _ _ _ fr _=>sV (Ci (v:=.pointer (some ⟨w.heap.size,0,none⟩)) rfl fr.2.1 (AbW w.heap.size ww))),
   sL fun _ k=>.inl ⟨trivial,fun K hK=>EH rfl k.1 k.2.1 (Ak k.2.2.1) (m:=8) rfl (by omega) (r:=end8) (fun q hq=>by rw[Acl];exact ArrAt.cell (Ak k.2.2.2.1) q (by omega)) (fun w2 hg ho=>hK _ _ ⟨⟨Ag ho,Al hg⟩,trivial⟩)⟩,
   trivial⟩ ?_
 intro vs own v1 hB1 hs1 kn inj;clear inj g2 g0 g1 hB;have g2:ArrAt v1 (w.heap.size+1+1) .u8 26 12 (over (fun _=>0) 4 8 (end8)):=Ak kn.1;have g0:ArrAt v1 w.heap.size .u8 177 8 (end8):=Ak kn.2.1;have g1:ArrAt v1 (w.heap.size+1) .u8 26 12 (fun _=>0):=Ak kn.2.2.1;have hB:=hB1;clear kn hB1 hs1;simp only[Am,Act.put,Aci,Acj,Ach]
 go_wp2_with (first|(refine Aq Ax g2 (by rfl) ?_)|(refine A1 Ax g1 (by rfl) (by rfl) ?_;intro v4 g4 o4;refine Hid.out ?_))
 refine Hid.mk ?_;go_wp2_with fail;exact bodyPost_ret (AE results151 Ax g4 (by rfl)) rfl ⟨rfl,hB.trans (o4.below (by omega))⟩
theorem J9(n:Int)(w:World):Calls prog 121 #[.int .u64 n] w fun e w'=>e=.returned (.agg (WA .u8 12 (MR (AM n))))∧Below w.heap.size w w':=by
 have g0:ArrAt (w.alloc (.cells (WA .u8 12 fun _=>0) 26)) w.heap.size .u8 26 12 (fun _=>0):=heap_alloc_new w _;have hB:Below w.heap.size w (w.alloc (.cells (WA .u8 12 fun _=>0) 26)):=(Below.refl _ w).alloc (Acg _) _;go_enter func121,ntmps121;go_wp2_with fail;refine(Lh n _).mono ?_;rintro e v1 ⟨rfl,hb1⟩;replace g0:=g0.kept hb1;replace hB:=hB.trans (hb1.mono hB.size);clear hb1;go_wp2_with fail;refine(OS (AM n) _).mono ?_;rintro e v2 ⟨rfl,hb2⟩;replace g0:=g0.kept hb2;replace hB:=hB.trans (hb2.mono hB.size);clear hb2
 go_wp2_with (refine A1 Ax g0 (by rfl) (by rfl) ?_;intro v4 g4 o4;refine Hid.out ?_)
 refine Hid.mk ?_;go_wp2_with fail;exact bodyPost_ret (AE results121 Ax g4 (by rfl)) rfl ⟨rfl,hB.trans (o4.below (Acg _))⟩
theorem Ll(n:Int)(w:World)(hn:0≤n∧n<18446744073709551616):Calls prog 86 #[.int .u64 n] w fun e w'=>e=.returned (.agg (WA .u8 12 (MR (AM n))))∧Below w.heap.size w w':=by
 have g0:ArrAt ((w.alloc (.cells (WA .u8 12 fun _=>0) 26)).alloc (.cells (WA .u8 12 fun _=>0) 26)) w.heap.size .u8 26 12 (fun _=>0):=heap_alloc2_old w _ _;have g1:ArrAt ((w.alloc (.cells (WA .u8 12 fun _=>0) 26)).alloc (.cells (WA .u8 12 fun _=>0) 26)) (w.heap.size+1) .u8 26 12 (fun _=>0):=heap_alloc2_new w _ _;have hB:Below w.heap.size w ((w.alloc (.cells (WA .u8 12 fun _=>0) 26)).alloc (.cells (WA .u8 12 fun _=>0) 26)):=((Below.refl _ w).alloc (by simp) _).alloc (by simp) _;have HN:=Hid.mk hn;go_enter func86,ntmps86;go_wp2_with fail;refine AJ (fun v=>ArrAt v (w.heap.size+1) .u8 26 12 (fun _=>0)∧ArrAt v w.heap.size .u8 26 12 (fun _=>0)∧Below w.heap.size w v) ⟨g1,g0,hB⟩ ?_;clear g1 g0 hB;rintro v0 ⟨g1,g0,hB⟩;refine Ai (Below w.heap.size w) v0.heap.size
  [((w.heap.size+1),once (WA .u8 12 (fun _=>0)) 26 3 (WA .u8 12 (over (fun _=>0) 4 8 (AM n)))),(w.heap.size,AQ (WA .u8 12 (fun _=>0)) 26)]
  [kv (.slice (some ⟨(w.heap.size+1),4,none⟩) 8 8),kv (.int .u64 n),kv (.string (mkS 8 (AM n))),.val fun _=>True]
  [.none,.none,.none,.base 0 1]
  [some 4,some 5,some 6,some 7]
  [(3,.pointer (some ⟨(w.heap.size+1),0,none⟩)),(0,.int .u64 n)]
  [[],[],[.slot 1],[.slot 0,.slot 2,.base 0 0]]
  [.base 0 1,.base 1 0] [4,5,6,7]
  rfl (by kernel_rfl) ⟨rfl,rfl,trivial⟩ (Below.drew hB) (Acg _) ⟨⟨g1.lt,Al g1⟩,⟨g0.lt,Al g0⟩,trivial⟩ ⟨⟨(show ((w.heap.size+1):Nat)≠w.heap.size from by omega),trivial⟩,trivial,trivial⟩ (A8 hB.size ⟨by omega,by omega,trivial⟩)
  ⟨
   (fun _ _ ww _ _ _ fr _=>sV (DC (v:=.pointer (some ⟨(w.heap.size+1),0,none⟩)) (u:=.int .i64 4) rfl fr.1 rfl (VW (w.heap.size+1) ww))),
   sL fun f _=>sV (Ab rfl f.2.1),
   (fun _ _ ww _ _ _ _ kn=>.inl ⟨trivial,fun K hK=>AH Ij rfl (BI kn.1) (Ih n ww HN.out) (fun w' hb=>hK _ _ ⟨Ac hb,rfl⟩)⟩),
   sL fun _ k=>.inl ⟨trivial,fun K hK=>Jt rfl k.1 k.2.1 (Ak k.2.2.1) (fun j _=>Ej n j) (by omega) (by omega) (fun w2 hg ho=>hK _ _ ⟨⟨Ag ho,Al hg⟩,trivial⟩)⟩,
   trivial⟩ ?_
 intro vs own v1 hB1 hs1 kn inj;clear inj g1 g0 hB;have g1:ArrAt v1 (w.heap.size+1) .u8 26 12 (over (fun _=>0) 4 8 (AM n)):=Ak kn.1;have g0:ArrAt v1 w.heap.size .u8 26 12 (fun _=>0):=Ak kn.2.1;have hB:=hB1;clear kn hB1 hs1;simp only[Am,Act.put,Aci,Acj,Ach]
 go_wp2_with (first|(refine Aq Ax g1 (by rfl) ?_)|(refine A1 Ax g0 (by rfl) (by rfl) ?_;intro v4 g4 o4;refine Hid.out ?_))
 refine Hid.mk ?_;go_wp2_with fail;exact bodyPost_ret (AE results86 Ax g4 (by rfl)) rfl ⟨rfl,hB.trans (o4.below (Acg _))⟩
theorem Il(args:Array Value)(w:World):(callFunc 38 args).run prog w=.ok (.enter 38 args) w:=by kernel_rfl
theorem Qs(args:Array Value)(w:World):(callFunc 85 args).run prog w=.ok (.enter 85 args) w:=by kernel_rfl
theorem Qt(args:Array Value)(w:World):(callFunc 90 args).run prog w=.ok (.enter 90 args) w:=by kernel_rfl
theorem JY(args:Array Value)(w:World):(callFunc 86 args).run prog w=.ok (.enter 86 args) w:=by kernel_rfl
theorem C5(k:Nat→Int)(w:World)(hk:Byts 32 k):Calls prog 38 #[.agg (WA .u8 32 k)] w fun e w'=>e=.returned (.string (mkS 32 k))∧Below w.heap.size w w':=by
 have g0:ArrAt (w.alloc (.cells (WA .u8 32 k) 22)) w.heap.size .u8 22 32 k:=heap_alloc_new w _;have hB:Below w.heap.size w (w.alloc (.cells (WA .u8 32 k) 22)):=(Below.refl _ w).alloc (Acg _) _;have hcv:=AD 32 w.heap.size 32 _ 32 k g0.row (fun j hj=>hk j hj) rfl;go_enter func38,ntmps38;go_wp2_with fail
 go_ret
 exact⟨rfl,hB⟩
theorem OT(s:ByteArray)(w:World)(hs:s.size=32):Calls prog 47 #[.string s] w fun e w'=>e=.returned (.agg (WA .u8 32 (txt s)))∧Below w.heap.size w w':=by
 have g0:ArrAt ((w.alloc (.cells (WA .u8 32 fun _=>0) 22)).alloc (.cells (WA .u8 32 fun _=>0) 22)) w.heap.size .u8 22 32 (fun _=>0):=heap_alloc2_old w _ _;have g1:ArrAt ((w.alloc (.cells (WA .u8 32 fun _=>0) 22)).alloc (.cells (WA .u8 32 fun _=>0) 22)) (w.heap.size+1) .u8 22 32 (fun _=>0):=heap_alloc2_new w _ _;have hB:Below w.heap.size w ((w.alloc (.cells (WA .u8 32 fun _=>0) 22)).alloc (.cells (WA .u8 32 fun _=>0) 22)):=((Below.refl _ w).alloc (by simp) _).alloc (by simp) _;have HB8:Hid (∀j,j<32→0≤txt s j∧txt s j<256):=Hid.mk (fun j _=>Bn s j);have HKK:Hid (mkS 32 (txt s)=s):=Hid.mk (by rw[←hs];exact CE s);clear hs;go_enter func47,ntmps47
 go_wp2_with (refine EL (m:=32) (r:=txt s) (by rfl) (by show Value.string s=_;rw[HKK.out]) g1 HB8.out (by omega) (by omega) ?_;intro v4 g4 o4;refine Hid.out ?_)
 replace g0:=g0.only o4 (by omega);replace hB:=hB.trans (o4.below (by omega));replace g4:=g4.congr (s':=txt s) (fun j hj=>by unfold over;rw[if_pos (by omega),Nat.sub_zero]);clear o4 g1;refine Hid.mk ?_
 go_wp2_with (first|(refine Aq Af g4 (by rfl) ?_)|(refine A1 Af g0 (by rfl) (by rfl) ?_;intro v7 g7 o7;refine Hid.out ?_))
 refine Hid.mk ?_;go_wp2_with fail;exact bodyPost_ret (AE results47 Af g7 (by rfl)) rfl ⟨rfl,hB.trans (o7.below (Acg _))⟩
def StAt(w:World)(b:Nat)(H C:Nat→Int):Prop:=ArrAt w b .u8 84 64 (cat 32 H C)
section
variable {w w':World} {b:Nat} {H C:Nat→Int}
theorem StAt.lt(h:StAt w b H C):b<w.heap.size:=ArrAt.lt h
theorem StAt.kept(h:StAt w b H C)(hb:Below w.heap.size w w'):StAt w' b H C:=ArrAt.kept h hb
theorem StAt.block(h:StAt w b H C)(e:w'.heap[b]?=w.heap[b]?):StAt w' b H C:=ArrAt.block h e
theorem StAt.h(h:StAt w b H C):w.rangeAt b 0 (AC .u8 32 H):=fun j v hj=>by
 obtain⟨hj2,rfl⟩:=B6 hj;rw[Acl,ArrAt.cell h j (by omega)];unfold cat;rw[if_pos hj2]
theorem StAt.c(h:StAt w b H C):w.rangeAt b 32 (AC .u8 32 C):=fun j v hj=>by
 obtain⟨hj2,rfl⟩:=B6 hj;rw[ArrAt.cell h (32+j) (by omega)];unfold cat;rw[if_neg (by omega),Ac0]
theorem StAt.part{o m:Nat}{r:Nat→Int}(h:StAt w b H C)(hm:o+m≤64):ArrAt (w.setCells b o (AC .u8 m r)) b .u8 84 64 (over (cat 32 H C) o m r)∧Only b w (w.setCells b o (AC .u8 m r)):=by
 obtain⟨C',h1,h2,h3,h4,h5⟩:=BE (AC .u8 m r) o w _ h (by rw[A3,A5];exact hm);rw[A3] at h3 h4;rw[A5] at h2
 have e:C'=WA .u8 64 (over (cat 32 H C) o m r):=Gv h2 (fun i hi=>by
  unfold over
  by_cases h:o≤i∧i<o+m
  ·rw[if_pos h]
   have:=h3 (i-o) (by omega);rw[show o+(i-o)=i by omega] at this;rw[this,BC .u8 m r (by omega)]
  ·rw[if_neg h,h4 i (by omega),Ei .u8 64 _ i hi])
 exact⟨by unfold ArrAt;rw[h1,e],h5⟩
theorem StAt.setH(h:StAt w b H C)(H':Nat→Int):StAt (w.setCells b 0 (AC .u8 32 H')) b H' C∧Only b w (w.setCells b 0 (AC .u8 32 H')):=by
 obtain⟨h1,h2⟩:=h.part (o:=0) (m:=32) (r:=H') (by omega);refine⟨h1.congr (fun i hi=>?_),h2⟩;unfold over cat
 by_cases e:i<32
 ·rw[if_pos (by omega),if_pos e,Nat.sub_zero]
 ·rw[if_neg (by omega),if_neg e,if_neg e]
theorem StAt.setC(h:StAt w b H C)(C':Nat→Int):StAt (w.setCells b 32 (AC .u8 32 C')) b H C'∧Only b w (w.setCells b 32 (AC .u8 32 C')):=by
 obtain⟨h1,h2⟩:=h.part (o:=32) (m:=32) (r:=C') (by omega);refine⟨h1.congr (fun i hi=>?_),h2⟩;unfold over cat
 by_cases e:i<32
 ·rw[if_neg (by omega),if_pos e,if_pos e]
 ·rw[if_pos (by omega),if_neg e]
end
theorem VX{ops:Array Oper}{rest:List Oper}{d:Option Tmp}{x y:Operand}{t:TypeId}{ps:String}{af:Array Edge}{a:Act}{w:World}{Q:Exit→Act→World→Prop}{b:Nat}{H C s:Nat→Int}(hg:StAt w b H C)(hx:a.eval x=.pointer (some ⟨b,0,none⟩))(hy:a.eval y=.agg (WA .u8 32 s))(h:∀w2,StAt w2 b s C→Only b w w2→wpList prog ops Q rest (a.put d undef) w2):wpList prog ops Q ({ dst:=d,op:=.store 22 x y,type:=t,pos:=ps,after:=af,guard:=none }::rest) a w:=by
 obtain⟨_,_,_,h3⟩:=Af;have h2:=hg.setH s;exact wpList_store_mid rfl 22 x y rfl b 0 (WA .u8 32 s) hx hy (by rw[A5];exact D2 hg (by rw[A5];omega)) (by rw[A5];exact h3) (Fl .u8 32 s) (h _ h2.1 h2.2)
theorem VY{ops:Array Oper}{rest:List Oper}{d:Option Tmp}{x y:Operand}{t:TypeId}{ps:String}{af:Array Edge}{a:Act}{w:World}{Q:Exit→Act→World→Prop}{b:Nat}{H C s:Nat→Int}(hg:StAt w b H C)(hx:a.eval x=.pointer (some ⟨b,32,none⟩))(hy:a.eval y=.agg (WA .u8 32 s))(h:∀w2,StAt w2 b H s→Only b w w2→wpList prog ops Q rest (a.put d undef) w2):wpList prog ops Q ({ dst:=d,op:=.store 22 x y,type:=t,pos:=ps,after:=af,guard:=none }::rest) a w:=by
 obtain⟨_,_,_,h3⟩:=Af;have h2:=hg.setC s;exact wpList_store_mid rfl 22 x y rfl b 32 (WA .u8 32 s) hx hy (by rw[A5];exact D2 hg (by rw[A5];omega)) (by rw[A5];exact h3) (Fl .u8 32 s) (h _ h2.1 h2.2)
theorem DQ(b:Nat){w w':World}(h:Below w.heap.size w w'):Touch (fun x=>x=b) w w':=⟨h.os,h.tape,h.output,h.size,fun k hk _=>h.block k hk⟩
def BX(H:Nat→Int)(s:ByteArray):Nat→Int:=BJ (mkS 32 H++s)
theorem C6(H:Nat→Int)(s:ByteArray)(n:Nat):Byts n (BX H s):=fun i _=>Ie _ i
theorem F0(b:Nat)(H C:Nat→Int)(s:ByteArray)(w:World)(g:StAt w b H C)(hH:Byts 32 H)(hs:s.size≤281474976710656):Calls prog 41 #[.pointer (some ⟨b,0,none⟩),.string s] w fun e w'=>e=.returned (.tuple #[])∧StAt w' b (BX H s) C∧Touch (fun x=>x=b) w w':=by
 have HL:Hid ((mkS 32 H).size+s.size≤9223372036854775807):=Hid.mk (by rw[Ar];omega);have hr:=g.h;have hR:=fun u=>IF (mkS 32 H++s) u (by rw[ByteArray.size_append,Ar];omega)
 change ∀u,Calls prog 72 #[.string (mkS 32 H++s)] u fun e w'=>e=.returned (.agg (WA .u8 32 (BX H s)))∧Below u.heap.size u w' at hR
 go_enter func41,ntmps41
 go_wp2_with (refine Ae rfl (Ao rfl Af (by rfl) hr) ?_)
 refine(C5 H _ hH).mono ?_;rintro e v1 ⟨rfl,hb1⟩;replace g:=g.kept hb1;have ht:=DQ b hb1;clear hb1 hr
 go_wp2_with (refine Ae rfl (Be rfl (by rfl) (by rfl) HL.out) ?_)
 refine(hR _).mono ?_;rintro e v2 ⟨rfl,hb2⟩;replace g:=g.kept hb2;replace ht:=ht.trans (DQ b hb2);clear hb2
 go_wp2_with (refine VX g (by rfl) (by rfl) ?_;intro v3 g3 o3;refine Hid.out ?_)
 refine Hid.mk ?_;go_wp2_with fail;refine bodyPost_end (results_none rfl _ _ _) rfl ?_;exact⟨rfl,g3,ht.trans (Ag o3)⟩
def chn(C:Nat→Int)(s:ByteArray):Nat→Nat→Int:=chK (EM (mkS 32 C) s)
theorem Dr(C:Nat→Int)(s:ByteArray)(i n:Nat):Byts n (chn C s i):=fun j _=>KO _ _ j
theorem D9(b n:Nat)(H C:Nat→Int)(s:ByteArray)(w:World)(g:StAt w b H C)(hC:Byts 32 C)(hs:s.size≤140737488355328)(h1:1≤n)(h8:n≤8):Calls prog 40 #[.pointer (some ⟨b,0,none⟩),.int .i64 (n:Int),.string s] w fun e w'=>∃gl cl,e=.returned (.slice (some ⟨gl,0,none⟩) n cl)∧w.heap.size≤gl∧RowsAt w' gl n 0 (chn C s)∧StAt w' b H (chn C s 0)∧Touch (fun x=>x=b) w w':=by
 have hr:=g.c;have hblt:=g.lt;have hCh:=fun u=>PV n C s u hC h1 h8 hs
 change ∀u,Calls prog 53 #[.int .i64 (n:Int),.agg (WA .u8 32 C),.string s] u fun e w'=>∃v B,e=.returned (.tuple #[v,.int .i64 0])∧u.heap.size≤B∧w'.ownsRow B 22 32 v n (EN (chn C s) n)∧Below u.heap.size u w' at hCh
 go_enter func40,ntmps40
 go_wp2_with (refine Ae rfl (Ao rfl Af (by rfl) hr) ?_)
 refine(hCh _).mono ?_;rintro e v1 ⟨vl,Bl,rfl,hBl,hO,hb1⟩;obtain⟨gl,cl,rfl,hgl,rL⟩:=O4 hO (by omega);replace g:=g.kept hb1;have ht:=DQ b hb1;have hr0:=rL.range (Acg 0) (by omega);have hgw:w.heap.size≤gl:=by omega
 clear hb1 hr hO hBl hgl hCh
 go_wp2_with (first|(refine Ae rfl (De (i:=0) rfl (by rfl) (by rfl) (by omega)) ?_)|(refine Ae rfl (Ao rfl Af (by rfl) hr0) ?_)|(refine VY g (by rfl) (by rfl) ?_;intro v3 g3 o3;refine Hid.out ?_))
 have rL3:=rL.only o3 (by omega);refine Hid.mk ?_;go_wp2_with fail
 go_ret
 exact⟨gl,cl,rfl,hgw,rL3,g3,ht.trans (Ag o3)⟩
end Go.Proofs.YthghcjepdhkfdaaGreatDoor
