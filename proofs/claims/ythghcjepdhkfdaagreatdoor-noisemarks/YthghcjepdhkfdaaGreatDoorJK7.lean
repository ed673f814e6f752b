/-
  Own text. What narrow of package aead answers; the document's narrow.
-/
import Derived.Test.YthghcjepdhkfdaaGreatDoorJK6
import Derived.Test.YthghcjepdhkfdaaGreatDoorJK3
import Derived.Test.YthghcjepdhkfdaaGreatDoorJK2
import Derived.OrdersHeld
import Derived.Laws.World
import Derived.Deep.MidRow
import Derived.ChangeKeysEq
import Derived.Deep.QuietTactic
import Derived.BigQuiet
import Derived.Laws.OwnMore
import Derived.OwnWalk
import Derived.Deep.OwnRows
import Derived.Deep.LoopGhost
import Derived.Laws.CopyOwn
set_option maxHeartbeats 16000000
set_option maxRecDepth 100000
namespace Go.Proofs.YthghcjepdhkfdaaGreatDoor
open Go.RowKit Go.Proofs
theorem enterDerive (args:Array Value) (w:World):(callFunc 176 args).run Tryz.prog w=.ok (.enter 176 args) w:=by kernel_rfl
theorem enterBehindZ (args:Array Value) (w:World):(callFunc 151 args).run Tryz.prog w=.ok (.enter 151 args) w:=by kernel_rfl
theorem enterRDerive (args:Array Value) (w:World):(callFunc 147 args).run Tryz.prog w=.ok (.enter 147 args) w:=by kernel_rfl
theorem dv_byts (f:Nat→Int) (n:Nat):∀ k,Byts n (dv f k)
 | 0=>fun i _=>by
  show 0≤(0:Int)∧(0:Int)<256
  omega
 | k+1=>putw_byts (putw_byts (dv_byts f n k))
theorem der_b (key inn:Nat→Int):Byts 32 (der key inn):=dv_byts _ _ _
theorem toarr16 (b f cap:Nat) (w:World):(Instr.arrayAt 54 (.slice (some ⟨b,f,none⟩) 16 cap)).run Tryz.prog w=.ok (.pointer (some ⟨b,f,none⟩)) w:=by simp[go_sem,Instr.arrayAt]
theorem toarr8 (b f cap:Nat) (w:World):(Instr.arrayAt 177 (.slice (some ⟨b,f,none⟩) 8 cap)).run Tryz.prog w=.ok (.pointer (some ⟨b,f,none⟩)) w:=by simp[go_sem,Instr.arrayAt]
theorem narrow_run (key nn:Nat→Int) (w:World) (hk:Byts 32 key) (hn:Byts 24 nn) :
  Calls Tryz.prog 146 #[.agg (WA .u8 32 key),.agg (WA .u8 24 nn)] w fun e w'=>e=.returned (.tuple #[.agg (WA .u8 32 (der key nn)),.agg (WA .u8 12 (tailN fun j=>nn (16+j)))])∧Below w.heap.size w w':=by
 have g0:ArrAt ((((w.alloc (.cells (WA .u8 32 key) 22)).alloc (.cells (WA .u8 24 nn) 53)).alloc (.cells (WA .u8 32 fun _=>0) 22)).alloc (.cells (WA .u8 12 fun _=>0) 26)) w.heap.size .u8 22 32 key:=heap_a41 w _ _ _ _
 have g1:ArrAt ((((w.alloc (.cells (WA .u8 32 key) 22)).alloc (.cells (WA .u8 24 nn) 53)).alloc (.cells (WA .u8 32 fun _=>0) 22)).alloc (.cells (WA .u8 12 fun _=>0) 26)) (w.heap.size+1) .u8 53 24 nn:=heap_a42 w _ _ _ _
 have g2:ArrAt ((((w.alloc (.cells (WA .u8 32 key) 22)).alloc (.cells (WA .u8 24 nn) 53)).alloc (.cells (WA .u8 32 fun _=>0) 22)).alloc (.cells (WA .u8 12 fun _=>0) 26)) (w.heap.size+1+1) .u8 22 32 (fun _=>0):=heap_a43 w _ _ _ _
 have g3:ArrAt ((((w.alloc (.cells (WA .u8 32 key) 22)).alloc (.cells (WA .u8 24 nn) 53)).alloc (.cells (WA .u8 32 fun _=>0) 22)).alloc (.cells (WA .u8 12 fun _=>0) 26)) (w.heap.size+1+1+1) .u8 26 12 (fun _=>0):=heap_a4 w _ _ _ _
 have hB:Below w.heap.size w ((((w.alloc (.cells (WA .u8 32 key) 22)).alloc (.cells (WA .u8 24 nn) 53)).alloc (.cells (WA .u8 32 fun _=>0) 22)).alloc (.cells (WA .u8 12 fun _=>0) 26)):=((((Below.refl _ w).alloc (by simp) _).alloc (by simp) _).alloc (by simp;omega) _).alloc (by simp;omega) _
 have HI:Hid (Byts 16 nn):=Hid.mk (fun i hi=>hn i (by omega))
 have HK:=Hid.mk hk
 go_enter Tryz.func146,Tryz.ntmps146
 go_wp2_with fail
 refine wp_gen (fun v=>ArrAt v w.heap.size .u8 22 32 (key)∧ArrAt v (w.heap.size+1) .u8 53 24 (nn)∧ArrAt v (w.heap.size+1+1) .u8 22 32 (fun _=>0)∧ArrAt v (w.heap.size+1+1+1) .u8 26 12 (fun _=>0)∧Below w.heap.size w v) ⟨g0,g1,g2,g3,hB⟩ ?_
 clear g0 g1 g2 g3 hB
 rintro v0 ⟨g0,g1,g2,g3,hB⟩
 have hz:=g3.lt
 refine wp_region3 (Below w.heap.size w) v0.heap.size
  [(w.heap.size,fixd (WA .u8 32 (key)) 22),((w.heap.size+1),fixd (WA .u8 24 (nn)) 53),((w.heap.size+1+1),fixd (WA .u8 32 (fun _=>0)) 22),((w.heap.size+1+1+1),fixd (WA .u8 12 (fun _=>0)) 26)]
  [kv (.agg (WA .u8 32 key)),kv (.slice (some ⟨(w.heap.size+1),0,none⟩) 16 24),kv (.pointer (some ⟨(w.heap.size+1),0,none⟩)),kv (.agg (WA .u8 16 nn)),kv (.agg (WA .u8 32 (der key nn))),kp (WA .u8 32 fun _=>0) 22 6 (WA .u8 32 (der key nn)),.val fun _=>True]
  [.none,.none,.none,.none,.none,.none,.own 5 1]
  [some 7,some 8,some 9,some 10,some 11,some 6,none]
  [(2,.pointer (some ⟨w.heap.size,0,none⟩)),(3,.pointer (some ⟨(w.heap.size+1),0,none⟩))]
  [[.base 0 0],[],[.slot 1],[.slot 2,.base 1 0],[.slot 0,.slot 3],[],[.slot 5,.cont 5 0,.slot 4]]
  [.base 0 0,.base 1 0,.base 2 0,.base 3 0,.slot 5,.cont 5 1] [7,8,9,10,11,6]
  rfl (by kernel_rfl) ⟨rfl,rfl,trivial⟩ (Below.drew hB) (Nat.le_refl _) ⟨⟨g0.lt,obIn g0⟩,⟨g1.lt,obIn g1⟩,⟨g2.lt,obIn g2⟩,⟨g3.lt,obIn g3⟩,trivial⟩ ⟨⟨trivial,trivial,trivial,trivial⟩,⟨trivial,trivial,trivial⟩,⟨trivial,trivial⟩,trivial,trivial⟩ (below_G hB.size ⟨by omega,by omega,by omega,by omega,trivial⟩)
  ⟨
   (fun _ _ _ _ _ _ fr kn=>sV (look_arr rfl isArr32 (obAt kn.1) fr.1)),
   (fun _ _ ww _ _ _ fr _=>sV (exec_slH (v:=.pointer (some ⟨(w.heap.size+1),0,none⟩)) (u:=.int .i64 16) rfl fr.2.1 rfl (sl24H16 (w.heap.size+1) ww))),
   (fun _ _ ww _ _ _ _ kn=>sV (exec_toarr rfl kn.1 (toarr16 _ _ _ ww))),
   (fun _ _ _ _ _ _ _ kn=>sV (exec_part0 rfl isArr16 (obAt kn.2.1) (by omega) kn.1)),
   (fun _ _ ww _ _ _ _ kn=>.inl ⟨trivial,fun K hK=>stepc enterDerive rfl (args2 kn.1 kn.2.1) (Derive_run key nn ww HK.out HI.out) (fun w' hb=>hK _ _ ⟨touch_below hb,rfl⟩)⟩),
   (fun _ _ _ _ _ _ _ _=>.inl ⟨trivial,fun K hK=>act_alloc zero32 rfl (fun w' hb hg=>hK _ _ ⟨touch_below hb,_,Nat.le_refl _,rfl,obIn hg⟩)⟩),
   (fun _ _ _ _ _ _ _ kn=>.inl ⟨trivial,fun K hK=>act_arr rfl isArr32 kn.1.1 kn.2.2.1 (obAt kn.2.1) (fun w2 hg ho=>hK _ _ ⟨touch_only ho,obIn hg,trivial⟩)⟩),
   trivial⟩ ?_
 intro vs own v1 hB1 hs1 kn inj
 clear inj g0 g1 g2 g3 hB
 have g0:ArrAt v1 w.heap.size .u8 22 32 (key):=obAt kn.1
 have g1:ArrAt v1 (w.heap.size+1) .u8 53 24 (nn):=obAt kn.2.1
 have g2:ArrAt v1 (w.heap.size+1+1) .u8 22 32 (fun _=>0):=obAt kn.2.2.1
 have g3:ArrAt v1 (w.heap.size+1+1+1) .u8 26 12 (fun _=>0):=obAt kn.2.2.2.1
 obtain ⟨e6,hb6,_⟩:=kn.2.2.2.2.1
 change vs 6=_ at e6
 have gD:ArrAt v1 (own 5) .u8 22 32 (der key nn):=obAt kn.2.2.2.2.2.1
 have hB:=hB1
 clear kn hB1 hs1
 simp only[putAll,Act.put,List.setIfInBounds_toArray,List.set_cons_zero,List.set_cons_succ,e6]
 generalize own 5=bD at *
 go_wp2_with fail
 refine wp_gen (fun v=>ArrAt v (w.heap.size+1+1) .u8 22 32 (fun _=>0)∧ArrAt v (w.heap.size+1+1+1) .u8 26 12 (fun _=>0)∧ArrAt v bD .u8 22 32 (der key nn)∧ArrAt v (w.heap.size+1) .u8 53 24 (nn)∧Below w.heap.size w v) ⟨g2,g3,gD,g1,hB⟩ ?_
 clear g2 g3 gD g1 hB
 rintro v2 ⟨g2,g3,gD,g1,hB⟩
 refine wp_region3 (Below w.heap.size w) v2.heap.size
  [((w.heap.size+1+1),once (WA .u8 32 (fun _=>0)) 22 5 (WA .u8 32 (der key nn))),((w.heap.size+1+1+1),once (WA .u8 12 (fun _=>0)) 26 6 (WA .u8 12 (tailN fun j=>nn (16+j)))),(bD,fixd (WA .u8 32 (der key nn)) 22),((w.heap.size+1),fixd (WA .u8 24 (nn)) 53)]
  [kv (.agg (WA .u8 32 (der key nn))),kv (.slice (some ⟨(w.heap.size+1),16,none⟩) 8 8),kv (.pointer (some ⟨(w.heap.size+1),16,none⟩)),kv (.agg (WA .u8 8 fun j=>nn (16+j))),kv (.agg (WA .u8 12 (tailN fun j=>nn (16+j)))),.val fun _=>True,.val fun _=>True]
  [.none,.none,.none,.none,.none,.base 0 1,.base 1 1]
  [some 12,some 13,some 14,some 15,some 16,none,none]
  [(6,.pointer (some ⟨bD,0,none⟩)),(3,.pointer (some ⟨(w.heap.size+1),0,none⟩)),(4,.pointer (some ⟨(w.heap.size+1+1),0,none⟩)),(5,.pointer (some ⟨(w.heap.size+1+1+1),0,none⟩))]
  [[.base 2 0],[],[.slot 1],[.slot 2,.base 3 0],[.slot 3],[.slot 0,.base 0 0],[.slot 4,.base 1 0]]
  [.base 0 1,.base 1 1,.base 2 0,.base 3 0] [12,13,14,15,16]
  rfl (by kernel_rfl) ⟨rfl,rfl,rfl,rfl,trivial⟩ (Below.drew hB) (Nat.le_refl _) ⟨⟨g2.lt,obIn g2⟩,⟨g3.lt,obIn g3⟩,⟨gD.lt,obIn gD⟩,⟨g1.lt,obIn g1⟩,trivial⟩ ⟨⟨(show ((w.heap.size+1+1):Nat)≠(w.heap.size+1+1+1) from by omega),(show ((w.heap.size+1+1):Nat)≠bD from by omega),(show ((w.heap.size+1+1):Nat)≠(w.heap.size+1) from by omega),trivial⟩,⟨(show ((w.heap.size+1+1+1):Nat)≠bD from by omega),(show ((w.heap.size+1+1+1):Nat)≠(w.heap.size+1) from by omega),trivial⟩,⟨trivial,trivial⟩,trivial,trivial⟩ (below_G hB.size ⟨by omega,by omega,by omega,by omega,trivial⟩)
  ⟨
   (fun _ _ _ _ _ _ fr kn=>sV (look_arr rfl isArr32 (obAt kn.1) fr.1)),
   (fun _ _ ww _ _ _ fr _=>sV (exec_slL (v:=.pointer (some ⟨(w.heap.size+1),0,none⟩)) (u:=.int .i64 16) rfl fr.2.1 rfl (sl24L16 (w.heap.size+1) ww))),
   (fun _ _ ww _ _ _ _ kn=>sV (exec_toarr rfl kn.1 (toarr8 _ _ _ ww))),
   (fun _ _ _ _ _ _ _ kn=>sV (exec_part 16 rfl isArr8 (obAt kn.2.1) (by omega) kn.1)),
   (fun _ _ ww _ _ _ _ kn=>.inl ⟨trivial,fun K hK=>stepc enterBehindZ rfl (args1 kn.1) (behindZ_run _ ww) (fun w' hb=>hK _ _ ⟨touch_below hb,rfl⟩)⟩),
   (fun _ _ _ _ _ _ fr kn=>.inl ⟨trivial,fun K hK=>act_arr rfl isArr32 fr.2.2.1 kn.1 (obAt kn.2.1) (fun w2 hg ho=>hK _ _ ⟨⟨touch_only ho,obIn hg⟩,trivial⟩)⟩),
   (fun _ _ _ _ _ _ fr kn=>.inl ⟨trivial,fun K hK=>act_arr rfl isArr12 fr.2.2.2.1 kn.1 (obAt kn.2.1) (fun w2 hg ho=>hK _ _ ⟨⟨touch_only ho,obIn hg⟩,trivial⟩)⟩),
   trivial⟩ ?_
 intro vs own v3 hB1 hs1 kn inj
 clear inj g2 g3 gD g1 hB
 have g2:ArrAt v3 (w.heap.size+1+1) .u8 22 32 (der key nn):=obAt kn.1
 have g3:ArrAt v3 (w.heap.size+1+1+1) .u8 26 12 (tailN fun j=>nn (16+j)):=obAt kn.2.1
 have gD:ArrAt v3 bD .u8 22 32 (der key nn):=obAt kn.2.2.1
 have g1:ArrAt v3 (w.heap.size+1) .u8 53 24 (nn):=obAt kn.2.2.2.1
 have hB:=hB1
 clear kn hB1 hs1
 simp only[putAll,Act.put,List.setIfInBounds_toArray,List.set_cons_zero,List.set_cons_succ]
 go_wp2_with fail
 exact bodyPost_ret (results_cells2 Tryz.results146 _ _ (w.heap.size+1+1) (w.heap.size+1+1+1) (by rfl) (by rfl) (WA .u8 32 (der key nn)) (WA .u8 12 (tailN fun j=>nn (16+j))) g2 g3 (by rw[WA_size];kernel_rfl) (by rw[WA_size];kernel_rfl) Tryz.underlying22 rfl Tryz.underlying26 rfl) rfl ⟨rfl,hB⟩
theorem rnarrow_run (key nn:Nat→Int) (w:World) (hk:Byts 32 key) (hn:Byts 24 nn) :
  Calls Tryz.prog 114 #[.agg (WA .u8 32 key),.agg (WA .u8 24 nn)] w fun e w'=>e=.returned (.tuple #[.agg (WA .u8 32 (der key nn)),.agg (WA .u8 12 (tailN fun j=>nn (16+j)))])∧Below w.heap.size w w':=by
 have g0:ArrAt ((((w.alloc (.cells (WA .u8 32 key) 22)).alloc (.cells (WA .u8 24 nn) 53)).alloc (.cells (WA .u8 32 fun _=>0) 22)).alloc (.cells (WA .u8 12 fun _=>0) 26)) w.heap.size .u8 22 32 key:=heap_a41 w _ _ _ _
 have g1:ArrAt ((((w.alloc (.cells (WA .u8 32 key) 22)).alloc (.cells (WA .u8 24 nn) 53)).alloc (.cells (WA .u8 32 fun _=>0) 22)).alloc (.cells (WA .u8 12 fun _=>0) 26)) (w.heap.size+1) .u8 53 24 nn:=heap_a42 w _ _ _ _
 have g2:ArrAt ((((w.alloc (.cells (WA .u8 32 key) 22)).alloc (.cells (WA .u8 24 nn) 53)).alloc (.cells (WA .u8 32 fun _=>0) 22)).alloc (.cells (WA .u8 12 fun _=>0) 26)) (w.heap.size+1+1) .u8 22 32 (fun _=>0):=heap_a43 w _ _ _ _
 have g3:ArrAt ((((w.alloc (.cells (WA .u8 32 key) 22)).alloc (.cells (WA .u8 24 nn) 53)).alloc (.cells (WA .u8 32 fun _=>0) 22)).alloc (.cells (WA .u8 12 fun _=>0) 26)) (w.heap.size+1+1+1) .u8 26 12 (fun _=>0):=heap_a4 w _ _ _ _
 have hB:Below w.heap.size w ((((w.alloc (.cells (WA .u8 32 key) 22)).alloc (.cells (WA .u8 24 nn) 53)).alloc (.cells (WA .u8 32 fun _=>0) 22)).alloc (.cells (WA .u8 12 fun _=>0) 26)):=((((Below.refl _ w).alloc (by simp) _).alloc (by simp) _).alloc (by simp;omega) _).alloc (by simp;omega) _
 have HI:Hid (Byts 16 nn):=Hid.mk (fun i hi=>hn i (by omega))
 have HK:=Hid.mk hk
 go_enter Tryz.func114,Tryz.ntmps114
 have g5:ArrAt (((((w.alloc (.cells (WA .u8 32 key) 22)).alloc (.cells (WA .u8 24 nn) 53)).alloc (.cells (WA .u8 32 fun _=>0) 22)).alloc (.cells (WA .u8 12 fun _=>0) 26)).alloc (.cells (WA .u8 16 fun _=>0) 54)) (w.heap.size+1+1+1+1) .u8 54 16 (fun _=>0):=by
  have h:=heap_alloc_new ((((w.alloc (.cells (WA .u8 32 key) 22)).alloc (.cells (WA .u8 24 nn) 53)).alloc (.cells (WA .u8 32 fun _=>0) 22)).alloc (.cells (WA .u8 12 fun _=>0) 26)) (.cells (WA .u8 16 fun _=>0) 54)
  simpa [ArrAt] using h
 replace g0:=g0.alloc (.cells (WA .u8 16 fun _=>0) 54)
 replace g1:=g1.alloc (.cells (WA .u8 16 fun _=>0) 54)
 replace g2:=g2.alloc (.cells (WA .u8 16 fun _=>0) 54)
 replace g3:=g3.alloc (.cells (WA .u8 16 fun _=>0) 54)
 replace hB:=hB.alloc hB.size (.cells (WA .u8 16 fun _=>0) 54)
 go_wp2_with fail
 refine wp_gen (fun v=>ArrAt v (w.heap.size+1+1+1+1) .u8 54 16 (fun _=>0)∧ArrAt v w.heap.size .u8 22 32 (key)∧ArrAt v (w.heap.size+1) .u8 53 24 (nn)∧ArrAt v (w.heap.size+1+1) .u8 22 32 (fun _=>0)∧ArrAt v (w.heap.size+1+1+1) .u8 26 12 (fun _=>0)∧Below w.heap.size w v) ⟨g5,g0,g1,g2,g3,hB⟩ ?_
 clear g5 g0 g1 g2 g3 hB
 rintro v0 ⟨g5,g0,g1,g2,g3,hB⟩
 refine wp_region3 (Below w.heap.size w) v0.heap.size
  [((w.heap.size+1+1+1+1),once (WA .u8 16 (fun _=>0)) 54 2 (WA .u8 16 (over (fun _=>0) 0 16 (nn)))),(w.heap.size,fixd (WA .u8 32 (key)) 22),((w.heap.size+1),fixd (WA .u8 24 (nn)) 53),((w.heap.size+1+1),fixd (WA .u8 32 (fun _=>0)) 22),((w.heap.size+1+1+1),fixd (WA .u8 12 (fun _=>0)) 26)]
  [kv (.slice (some ⟨(w.heap.size+1+1+1+1),0,none⟩) 16 16),kv (.slice (some ⟨(w.heap.size+1),0,none⟩) 16 24),.val fun _=>True]
  [.none,.none,.base 0 1]
  [some 8,some 9,some 10]
  [(6,.pointer (some ⟨(w.heap.size+1+1+1+1),0,none⟩)),(3,.pointer (some ⟨(w.heap.size+1),0,none⟩))]
  [[],[],[.slot 0,.slot 1,.base 0 0,.base 2 0]]
  [.base 0 1,.base 1 0,.base 2 0,.base 3 0,.base 4 0] [8,9,10]
  rfl (by kernel_rfl) ⟨rfl,rfl,trivial⟩ (Below.drew hB) (Nat.le_refl _) ⟨⟨g5.lt,obIn g5⟩,⟨g0.lt,obIn g0⟩,⟨g1.lt,obIn g1⟩,⟨g2.lt,obIn g2⟩,⟨g3.lt,obIn g3⟩,trivial⟩ ⟨⟨(show ((w.heap.size+1+1+1+1):Nat)≠w.heap.size from by omega),(show ((w.heap.size+1+1+1+1):Nat)≠(w.heap.size+1) from by omega),(show ((w.heap.size+1+1+1+1):Nat)≠(w.heap.size+1+1) from by omega),(show ((w.heap.size+1+1+1+1):Nat)≠(w.heap.size+1+1+1) from by omega),trivial⟩,⟨trivial,trivial,trivial,trivial⟩,⟨trivial,trivial,trivial⟩,⟨trivial,trivial⟩,trivial,trivial⟩ (below_G hB.size ⟨by omega,by omega,by omega,by omega,by omega,trivial⟩)
  ⟨
   (fun _ _ ww _ _ _ fr _=>sV (exec_sl (v:=.pointer (some ⟨(w.heap.size+1+1+1+1),0,none⟩)) rfl fr.1 (sl16W (w.heap.size+1+1+1+1) ww))),
   (fun _ _ ww _ _ _ fr _=>sV (exec_slH (v:=.pointer (some ⟨(w.heap.size+1),0,none⟩)) (u:=.int .i64 16) rfl fr.2.1 rfl (sl24H16 (w.heap.size+1) ww))),
   (fun _ _ _ _ _ _ _ kn=>.inl ⟨trivial,fun K hK=>act_copy rfl kn.1 kn.2.1 (obAt kn.2.2.1) (m:=16) rfl (by omega) (r:=nn) (fun q hq=>by rw[Nat.zero_add];exact ArrAt.cell (obAt kn.2.2.2.1) q (by omega)) (fun w2 hg ho=>hK _ _ ⟨⟨touch_only ho,obIn hg⟩,trivial⟩)⟩),
   trivial⟩ ?_
 intro vs own v1 hB1 hs1 kn inj
 clear inj g5 g0 g1 g2 g3 hB
 have g5:ArrAt v1 (w.heap.size+1+1+1+1) .u8 54 16 (over (fun _=>0) 0 16 (nn)):=obAt kn.1
 have g0:ArrAt v1 w.heap.size .u8 22 32 (key):=obAt kn.2.1
 have g1:ArrAt v1 (w.heap.size+1) .u8 53 24 (nn):=obAt kn.2.2.1
 have g2:ArrAt v1 (w.heap.size+1+1) .u8 22 32 (fun _=>0):=obAt kn.2.2.2.1
 have g3:ArrAt v1 (w.heap.size+1+1+1) .u8 26 12 (fun _=>0):=obAt kn.2.2.2.2.1
 have hB:=hB1
 clear kn hB1 hs1
 simp only[putAll,Act.put,List.setIfInBounds_toArray,List.set_cons_zero,List.set_cons_succ]
 have hz:=g5.lt
 have gn:=fun o (ho:o=Obj.cells (WA .u8 12 fun _=>0) 26 (0,0))=>(by rw[ho];exact heap_alloc_new v1 _:ArrAt (v1.alloc o) v1.heap.size .u8 26 12 (fun _=>0))
 obtain ⟨b6,hb6⟩:∃ b6,b6=v1.heap.size:=⟨_,rfl⟩
 have hz2:(w.heap.size+1+1+1+1)<b6:=by omega
 go_wp2_with fail
 replace hB:=hB.alloc hB.size
 replace g0:=g0.alloc
 replace g1:=g1.alloc
 replace g2:=g2.alloc
 replace g3:=g3.alloc
 replace g5:=g5.alloc
 rw[← hb6] at gn ⊢
 refine wp_gen (fun v=>ArrAt v b6 .u8 26 12 (fun _=>0)∧ArrAt v (w.heap.size+1+1+1+1) .u8 54 16 (over (fun _=>0) 0 16 (nn))∧ArrAt v w.heap.size .u8 22 32 (key)∧ArrAt v (w.heap.size+1) .u8 53 24 (nn)∧ArrAt v (w.heap.size+1+1) .u8 22 32 (fun _=>0)∧ArrAt v (w.heap.size+1+1+1) .u8 26 12 (fun _=>0)∧Below w.heap.size w v) ⟨gn _ rfl,g5 _,g0 _,g1 _,g2 _,g3 _,hB _⟩ ?_
 clear gn g5 g0 g1 g2 g3 hB
 rintro v3 ⟨g6,g5,g0,g1,g2,g3,hB⟩
 refine wp_region3 (Below w.heap.size w) v3.heap.size
  [(b6,once (WA .u8 12 (fun _=>0)) 26 2 (WA .u8 12 (over (fun _=>0) 4 8 (fun j=>nn (16+j))))),((w.heap.size+1+1+1+1),fixd (WA .u8 16 (over (fun _=>0) 0 16 (nn))) 54),(w.heap.size,fixd (WA .u8 32 (key)) 22),((w.heap.size+1),fixd (WA .u8 24 (nn)) 53),((w.heap.size+1+1),fixd (WA .u8 32 (fun _=>0)) 22),((w.heap.size+1+1+1),fixd (WA .u8 12 (fun _=>0)) 26)]
  [kv (.slice (some ⟨b6,4,none⟩) 8 8),kv (.slice (some ⟨(w.heap.size+1),16,none⟩) 8 8),.val fun _=>True]
  [.none,.none,.base 0 1]
  [some 11,some 12,some 13]
  [(7,.pointer (some ⟨b6,0,none⟩)),(3,.pointer (some ⟨(w.heap.size+1),0,none⟩))]
  [[],[],[.slot 0,.slot 1,.base 0 0,.base 3 0]]
  [.base 0 1,.base 1 0,.base 2 0,.base 3 0,.base 4 0,.base 5 0] [11,12,13]
  rfl (by kernel_rfl) ⟨rfl,rfl,trivial⟩ (Below.drew hB) (Nat.le_refl _) ⟨⟨g6.lt,obIn g6⟩,⟨g5.lt,obIn g5⟩,⟨g0.lt,obIn g0⟩,⟨g1.lt,obIn g1⟩,⟨g2.lt,obIn g2⟩,⟨g3.lt,obIn g3⟩,trivial⟩ ⟨⟨(show (b6:Nat)≠(w.heap.size+1+1+1+1) from by omega),(show (b6:Nat)≠w.heap.size from by omega),(show (b6:Nat)≠(w.heap.size+1) from by omega),(show (b6:Nat)≠(w.heap.size+1+1) from by omega),(show (b6:Nat)≠(w.heap.size+1+1+1) from by omega),trivial⟩,⟨trivial,trivial,trivial,trivial,trivial⟩,⟨trivial,trivial,trivial,trivial⟩,⟨trivial,trivial,trivial⟩,⟨trivial,trivial⟩,trivial,trivial⟩ (below_G hB.size ⟨by omega,by omega,by omega,by omega,by omega,by omega,trivial⟩)
  ⟨
   (fun _ _ ww _ _ _ fr _=>sV (exec_slL (v:=.pointer (some ⟨b6,0,none⟩)) (u:=.int .i64 4) rfl fr.1 rfl (sl12L4 b6 ww))),
   (fun _ _ ww _ _ _ fr _=>sV (exec_slL (v:=.pointer (some ⟨(w.heap.size+1),0,none⟩)) (u:=.int .i64 16) rfl fr.2.1 rfl (sl24L16 (w.heap.size+1) ww))),
   (fun _ _ _ _ _ _ _ kn=>.inl ⟨trivial,fun K hK=>act_copy rfl kn.1 kn.2.1 (obAt kn.2.2.1) (m:=8) rfl (by omega) (r:=fun j=>nn (16+j)) (fun q hq=>ArrAt.cell (obAt kn.2.2.2.1) (16+q) (by omega)) (fun w2 hg ho=>hK _ _ ⟨⟨touch_only ho,obIn hg⟩,trivial⟩)⟩),
   trivial⟩ ?_
 intro vs own v4 hB1 hs1 kn inj
 clear inj g6 g5 g0 g1 g2 g3 hB
 have g6:ArrAt v4 b6 .u8 26 12 (over (fun _=>0) 4 8 (fun j=>nn (16+j))):=obAt kn.1
 have g5:ArrAt v4 (w.heap.size+1+1+1+1) .u8 54 16 (over (fun _=>0) 0 16 (nn)):=obAt kn.2.1
 have g0:ArrAt v4 w.heap.size .u8 22 32 (key):=obAt kn.2.2.1
 have g1:ArrAt v4 (w.heap.size+1) .u8 53 24 (nn):=obAt kn.2.2.2.1
 have g2:ArrAt v4 (w.heap.size+1+1) .u8 22 32 (fun _=>0):=obAt kn.2.2.2.2.1
 have g3:ArrAt v4 (w.heap.size+1+1+1) .u8 26 12 (fun _=>0):=obAt kn.2.2.2.2.2.1
 have hB:=hB1
 clear kn hB1 hs1
 simp only[putAll,Act.put,List.setIfInBounds_toArray,List.set_cons_zero,List.set_cons_succ]
 replace g5:=g5.congr (s':=nn) (fun j hj=>by unfold over;rw[if_pos (by omega),Nat.sub_zero])
 go_wp2_with fail
 refine wp_gen (fun v=>ArrAt v (w.heap.size+1+1) .u8 22 32 (fun _=>0)∧ArrAt v (w.heap.size+1+1+1) .u8 26 12 (fun _=>0)∧ArrAt v b6 .u8 26 12 (tailN fun j=>nn (16+j))∧ArrAt v (w.heap.size+1+1+1+1) .u8 54 16 (nn)∧ArrAt v w.heap.size .u8 22 32 (key)∧ArrAt v (w.heap.size+1) .u8 53 24 (nn)∧Below w.heap.size w v) ⟨g2,g3,g6,g5,g0,g1,hB⟩ ?_
 clear g2 g3 g6 g5 g0 g1 hB
 rintro v5 ⟨g2,g3,g6,g5,g0,g1,hB⟩
 refine wp_region3 (Below w.heap.size w) v5.heap.size
  [((w.heap.size+1+1),once (WA .u8 32 (fun _=>0)) 22 4 (WA .u8 32 (der key nn))),((w.heap.size+1+1+1),once (WA .u8 12 (fun _=>0)) 26 5 (WA .u8 12 (tailN fun j=>nn (16+j)))),(b6,fixd (WA .u8 12 (tailN fun j=>nn (16+j))) 26),((w.heap.size+1+1+1+1),fixd (WA .u8 16 (nn)) 54),(w.heap.size,fixd (WA .u8 32 (key)) 22),((w.heap.size+1),fixd (WA .u8 24 (nn)) 53)]
  [kv (.agg (WA .u8 32 key)),kv (.agg (WA .u8 16 nn)),kv (.agg (WA .u8 32 (der key nn))),kv (.agg (WA .u8 12 (tailN fun j=>nn (16+j)))),.val fun _=>True,.val fun _=>True]
  [.none,.none,.none,.none,.base 0 1,.base 1 1]
  [some 14,some 15,some 16,some 17,none,none]
  [(2,.pointer (some ⟨w.heap.size,0,none⟩)),(6,.pointer (some ⟨(w.heap.size+1+1+1+1),0,none⟩)),(7,.pointer (some ⟨b6,0,none⟩)),(4,.pointer (some ⟨(w.heap.size+1+1),0,none⟩)),(5,.pointer (some ⟨(w.heap.size+1+1+1),0,none⟩))]
  [[.base 4 0],[.base 3 0],[.slot 0,.slot 1],[.base 2 0],[.slot 2,.base 0 0],[.slot 3,.base 1 0]]
  [.base 0 1,.base 1 1,.base 2 0,.base 3 0,.base 4 0,.base 5 0] [14,15,16,17]
  rfl (by kernel_rfl) ⟨rfl,rfl,rfl,rfl,rfl,trivial⟩ (Below.drew hB) (Nat.le_refl _) ⟨⟨g2.lt,obIn g2⟩,⟨g3.lt,obIn g3⟩,⟨g6.lt,obIn g6⟩,⟨g5.lt,obIn g5⟩,⟨g0.lt,obIn g0⟩,⟨g1.lt,obIn g1⟩,trivial⟩ ⟨⟨(show ((w.heap.size+1+1):Nat)≠(w.heap.size+1+1+1) from by omega),(show ((w.heap.size+1+1):Nat)≠b6 from by omega),(show ((w.heap.size+1+1):Nat)≠(w.heap.size+1+1+1+1) from by omega),(show ((w.heap.size+1+1):Nat)≠w.heap.size from by omega),(show ((w.heap.size+1+1):Nat)≠(w.heap.size+1) from by omega),trivial⟩,⟨(show ((w.heap.size+1+1+1):Nat)≠b6 from by omega),(show ((w.heap.size+1+1+1):Nat)≠(w.heap.size+1+1+1+1) from by omega),(show ((w.heap.size+1+1+1):Nat)≠w.heap.size from by omega),(show ((w.heap.size+1+1+1):Nat)≠(w.heap.size+1) from by omega),trivial⟩,⟨trivial,trivial,trivial,trivial⟩,⟨trivial,trivial,trivial⟩,⟨trivial,trivial⟩,trivial,trivial⟩ (below_G hB.size ⟨by omega,by omega,by omega,by omega,by omega,by omega,trivial⟩)
  ⟨
   (fun _ _ _ _ _ _ fr kn=>sV (look_arr rfl isArr32 (obAt kn.1) fr.1)),
   (fun _ _ _ _ _ _ fr kn=>sV (look_arr rfl isArr16 (obAt kn.1) fr.2.1)),
   (fun _ _ ww _ _ _ _ kn=>.inl ⟨trivial,fun K hK=>stepc enterRDerive rfl (args2 kn.1 kn.2.1) (rDerive_run key nn ww HK.out HI.out) (fun w' hb=>hK _ _ ⟨touch_below hb,rfl⟩)⟩),
   (fun _ _ _ _ _ _ fr kn=>sV (look_arr rfl isArr12 (obAt kn.1) fr.2.2.1)),
   (fun _ _ _ _ _ _ fr kn=>.inl ⟨trivial,fun K hK=>act_arr rfl isArr32 fr.2.2.2.1 kn.1 (obAt kn.2.1) (fun w2 hg ho=>hK _ _ ⟨⟨touch_only ho,obIn hg⟩,trivial⟩)⟩),
   (fun _ _ _ _ _ _ fr kn=>.inl ⟨trivial,fun K hK=>act_arr rfl isArr12 fr.2.2.2.2.1 kn.1 (obAt kn.2.1) (fun w2 hg ho=>hK _ _ ⟨⟨touch_only ho,obIn hg⟩,trivial⟩)⟩),
   trivial⟩ ?_
 intro vs own v6 hB1 hs1 kn inj
 clear inj g2 g3 g6 g5 g0 g1 hB
 have g2:ArrAt v6 (w.heap.size+1+1) .u8 22 32 (der key nn):=obAt kn.1
 have g3:ArrAt v6 (w.heap.size+1+1+1) .u8 26 12 (tailN fun j=>nn (16+j)):=obAt kn.2.1
 have g6:ArrAt v6 b6 .u8 26 12 (tailN fun j=>nn (16+j)):=obAt kn.2.2.1
 have g5:ArrAt v6 (w.heap.size+1+1+1+1) .u8 54 16 (nn):=obAt kn.2.2.2.1
 have g0:ArrAt v6 w.heap.size .u8 22 32 (key):=obAt kn.2.2.2.2.1
 have g1:ArrAt v6 (w.heap.size+1) .u8 53 24 (nn):=obAt kn.2.2.2.2.2.1
 have hB:=hB1
 clear kn hB1 hs1
 simp only[putAll,Act.put,List.setIfInBounds_toArray,List.set_cons_zero,List.set_cons_succ]
 go_wp2_with fail
 exact bodyPost_ret (results_cells2 Tryz.results114 _ _ (w.heap.size+1+1) (w.heap.size+1+1+1) (by rfl) (by rfl) (WA .u8 32 (der key nn)) (WA .u8 12 (tailN fun j=>nn (16+j))) g2 g3 (by rw[WA_size];kernel_rfl) (by rw[WA_size];kernel_rfl) Tryz.underlying22 rfl Tryz.underlying26 rfl) rfl ⟨rfl,hB⟩
theorem isArr24:IsArr 53 24:=⟨_,_,Tryz.underlying53,by kernel_rfl⟩
theorem SealWide_run (key nn:Nat→Int) (text beside:ByteArray) (w:World) (hk:Byts 32 key) (hn:Byts 24 nn) (ht:text.size≤140737488355328) (hbs:beside.size≤281474976710656) :
  Calls Tryz.prog 110 #[.agg (WA .u8 32 key),.agg (WA .u8 24 nn),.string text,.string beside] w fun e w'=>e=.returned (.string (boxT (der key nn) (tailN fun j=>nn (16+j)) text beside))∧Below w.heap.size w w':=by
 have g0:ArrAt ((w.alloc (.cells (WA .u8 32 key) 22)).alloc (.cells (WA .u8 24 nn) 53)) w.heap.size .u8 22 32 key:=heap_alloc2_old w _ _
 have g1:ArrAt ((w.alloc (.cells (WA .u8 32 key) 22)).alloc (.cells (WA .u8 24 nn) 53)) (w.heap.size+1) .u8 53 24 nn:=heap_alloc2_new w _ _
 have hB:Below w.heap.size w ((w.alloc (.cells (WA .u8 32 key) 22)).alloc (.cells (WA .u8 24 nn) 53)):=((Below.refl _ w).alloc (by simp) _).alloc (by simp) _
 have hR:=fun w=>Seal_run (der key nn) (tailN fun j=>nn (16+j)) text beside w (der_b key nn) (tailN_b (fun i hi=>hn (16+i) (by omega))) ht hbs
 have hN:=fun w=>narrow_run key nn w hk hn
 generalize der key nn=kk at *
 generalize (tailN fun j=>nn (16+j))=tt at *
 generalize boxT kk tt text beside=x at *
 clear ht
 go_enter Tryz.func110,Tryz.ntmps110
 go_wp2_with (first|(refine ld_arr isArr32 g0 (by rfl) ?_)|(refine ld_arr isArr24 g1 (by rfl) ?_))
 refine (hN _).mono ?_
 rintro e v1 ⟨rfl,hb⟩
 replace hB:=hB.trans (hb.mono hB.size)
 clear hb g0 g1 hN
 have gA:=fun o o' (ho:o=Obj.cells (WA .u8 32 fun _=>0) 22 (0,0))=>(by rw[ho];exact heap_alloc2_old v1 _ _:ArrAt ((v1.alloc o).alloc o') v1.heap.size .u8 22 32 (fun _=>0))
 have gB:=fun o o' (ho:o'=Obj.cells (WA .u8 12 fun _=>0) 26 (0,0))=>(by rw[ho];exact heap_alloc2_new v1 _ _:ArrAt ((v1.alloc o).alloc o') (v1.heap.size+1) .u8 26 12 (fun _=>0))
 have HBS:=Hid.mk hB.size
 have HBA:Hid (∀ A B,Below w.heap.size w ((v1.alloc A).alloc B)):=Hid.mk (fun A B=>(hB.alloc hB.size A).alloc (by have:=hB.size;simp;omega) B)
 clear hB
 go_wp2_with (refine st_arr isArr32 (gA _ _ rfl) (by rfl) (by rfl) ?_;intro v2 g2 o2;refine Hid.out ?_)
 replace gB:=(gB _ _ rfl).only o2 (by omega)
 have hB:=(HBA.out _ _).trans (o2.below HBS.out)
 clear gA o2 HBA
 refine Hid.mk ?_
 go_wp2_with (refine st_arr isArr12 gB (by rfl) (by rfl) ?_;intro v3 g3 o3;refine Hid.out ?_)
 replace g2:=g2.only o3 (by omega)
 replace hB:=hB.trans (o3.below (by have:=HBS.out;omega))
 clear o3 gB HBS
 refine Hid.mk ?_
 go_wp2_with (first|(refine ld_arr isArr32 g2 (by rfl) ?_)|(refine ld_arr isArr12 g3 (by rfl) ?_))
 refine (hR _).mono ?_
 rintro e v4 ⟨rfl,hb⟩
 replace hB:=hB.trans (hb.mono hB.size)
 clear hb g2 g3 hR
 go_wp2_with fail
 go_ret
 exact ⟨rfl,hB⟩
theorem OpenWide_run (key nn:Nat→Int) (box beside:ByteArray) (w:World) (hk:Byts 32 key) (hn:Byts 24 nn) (ht:box.size≤140737488355328) (hbs:beside.size≤281474976710656) :
  Calls Tryz.prog 116 #[.agg (WA .u8 32 key),.agg (WA .u8 24 nn),.string box,.string beside] w fun e w'=>e=.returned (.tuple #[.string (openT (der key nn) (tailN fun j=>nn (16+j)) box beside).1,.int .i64 (openT (der key nn) (tailN fun j=>nn (16+j)) box beside).2])∧Below w.heap.size w w':=by
 have g0:ArrAt ((w.alloc (.cells (WA .u8 32 key) 22)).alloc (.cells (WA .u8 24 nn) 53)) w.heap.size .u8 22 32 key:=heap_alloc2_old w _ _
 have g1:ArrAt ((w.alloc (.cells (WA .u8 32 key) 22)).alloc (.cells (WA .u8 24 nn) 53)) (w.heap.size+1) .u8 53 24 nn:=heap_alloc2_new w _ _
 have hB:Below w.heap.size w ((w.alloc (.cells (WA .u8 32 key) 22)).alloc (.cells (WA .u8 24 nn) 53)):=((Below.refl _ w).alloc (by simp) _).alloc (by simp) _
 have hR:=fun w=>Open_run (der key nn) (tailN fun j=>nn (16+j)) box beside w (der_b key nn) (tailN_b (fun i hi=>hn (16+i) (by omega))) ht hbs
 have hN:=fun w=>narrow_run key nn w hk hn
 generalize der key nn=kk at *
 generalize (tailN fun j=>nn (16+j))=tt at *
 generalize openT kk tt box beside=x at *
 clear ht
 go_enter Tryz.func116,Tryz.ntmps116
 go_wp2_with (first|(refine ld_arr isArr32 g0 (by rfl) ?_)|(refine ld_arr isArr24 g1 (by rfl) ?_))
 refine (hN _).mono ?_
 rintro e v1 ⟨rfl,hb⟩
 replace hB:=hB.trans (hb.mono hB.size)
 clear hb g0 g1 hN
 have gA:=fun o o' (ho:o=Obj.cells (WA .u8 32 fun _=>0) 22 (0,0))=>(by rw[ho];exact heap_alloc2_old v1 _ _:ArrAt ((v1.alloc o).alloc o') v1.heap.size .u8 22 32 (fun _=>0))
 have gB:=fun o o' (ho:o'=Obj.cells (WA .u8 12 fun _=>0) 26 (0,0))=>(by rw[ho];exact heap_alloc2_new v1 _ _:ArrAt ((v1.alloc o).alloc o') (v1.heap.size+1) .u8 26 12 (fun _=>0))
 have HBS:=Hid.mk hB.size
 have HBA:Hid (∀ A B,Below w.heap.size w ((v1.alloc A).alloc B)):=Hid.mk (fun A B=>(hB.alloc hB.size A).alloc (by have:=hB.size;simp;omega) B)
 clear hB
 go_wp2_with (refine st_arr isArr32 (gA _ _ rfl) (by rfl) (by rfl) ?_;intro v2 g2 o2;refine Hid.out ?_)
 replace gB:=(gB _ _ rfl).only o2 (by omega)
 have hB:=(HBA.out _ _).trans (o2.below HBS.out)
 clear gA o2 HBA
 refine Hid.mk ?_
 go_wp2_with (refine st_arr isArr12 gB (by rfl) (by rfl) ?_;intro v3 g3 o3;refine Hid.out ?_)
 replace g2:=g2.only o3 (by omega)
 replace hB:=hB.trans (o3.below (by have:=HBS.out;omega))
 clear o3 gB HBS
 refine Hid.mk ?_
 go_wp2_with (first|(refine ld_arr isArr32 g2 (by rfl) ?_)|(refine ld_arr isArr12 g3 (by rfl) ?_))
 refine (hR _).mono ?_
 rintro e v4 ⟨rfl,hb⟩
 replace hB:=hB.trans (hb.mono hB.size)
 clear hb g2 g3 hR
 go_wp2_with fail
 exact bodyPost_ret (v:=.tuple #[.string x.1,.int .i64 x.2]) (results_two Tryz.results116 (by rfl) (by rfl)) rfl ⟨rfl,hB⟩
theorem rSealWide_run (key nn:Nat→Int) (text beside:ByteArray) (w:World) (hk:Byts 32 key) (hn:Byts 24 nn) (ht:text.size≤140737488355328) (hbs:beside.size≤281474976710656) :
  Calls Tryz.prog 71 #[.agg (WA .u8 32 key),.agg (WA .u8 24 nn),.string text,.string beside] w fun e w'=>e=.returned (.string (boxT (der key nn) (tailN fun j=>nn (16+j)) text beside))∧Below w.heap.size w w':=by
 have g0:ArrAt ((w.alloc (.cells (WA .u8 32 key) 22)).alloc (.cells (WA .u8 24 nn) 53)) w.heap.size .u8 22 32 key:=heap_alloc2_old w _ _
 have g1:ArrAt ((w.alloc (.cells (WA .u8 32 key) 22)).alloc (.cells (WA .u8 24 nn) 53)) (w.heap.size+1) .u8 53 24 nn:=heap_alloc2_new w _ _
 have hB:Below w.heap.size w ((w.alloc (.cells (WA .u8 32 key) 22)).alloc (.cells (WA .u8 24 nn) 53)):=((Below.refl _ w).alloc (by simp) _).alloc (by simp) _
 have hR:=fun w=>rSeal_run (der key nn) (tailN fun j=>nn (16+j)) text beside w (der_b key nn) (tailN_b (fun i hi=>hn (16+i) (by omega))) ht hbs
 have hN:=fun w=>rnarrow_run key nn w hk hn
 generalize der key nn=kk at *
 generalize (tailN fun j=>nn (16+j))=tt at *
 generalize boxT kk tt text beside=x at *
 clear ht
 go_enter Tryz.func71,Tryz.ntmps71
 go_wp2_with (first|(refine ld_arr isArr32 g0 (by rfl) ?_)|(refine ld_arr isArr24 g1 (by rfl) ?_))
 refine (hN _).mono ?_
 rintro e v1 ⟨rfl,hb⟩
 replace hB:=hB.trans (hb.mono hB.size)
 clear hb g0 g1 hN
 have gA:=fun o o' (ho:o=Obj.cells (WA .u8 32 fun _=>0) 22 (0,0))=>(by rw[ho];exact heap_alloc2_old v1 _ _:ArrAt ((v1.alloc o).alloc o') v1.heap.size .u8 22 32 (fun _=>0))
 have gB:=fun o o' (ho:o'=Obj.cells (WA .u8 12 fun _=>0) 26 (0,0))=>(by rw[ho];exact heap_alloc2_new v1 _ _:ArrAt ((v1.alloc o).alloc o') (v1.heap.size+1) .u8 26 12 (fun _=>0))
 have HBS:=Hid.mk hB.size
 have HBA:Hid (∀ A B,Below w.heap.size w ((v1.alloc A).alloc B)):=Hid.mk (fun A B=>(hB.alloc hB.size A).alloc (by have:=hB.size;simp;omega) B)
 clear hB
 go_wp2_with (refine st_arr isArr32 (gA _ _ rfl) (by rfl) (by rfl) ?_;intro v2 g2 o2;refine Hid.out ?_)
 replace gB:=(gB _ _ rfl).only o2 (by omega)
 have hB:=(HBA.out _ _).trans (o2.below HBS.out)
 clear gA o2 HBA
 refine Hid.mk ?_
 go_wp2_with (refine st_arr isArr12 gB (by rfl) (by rfl) ?_;intro v3 g3 o3;refine Hid.out ?_)
 replace g2:=g2.only o3 (by omega)
 replace hB:=hB.trans (o3.below (by have:=HBS.out;omega))
 clear o3 gB HBS
 refine Hid.mk ?_
 go_wp2_with (first|(refine ld_arr isArr32 g2 (by rfl) ?_)|(refine ld_arr isArr12 g3 (by rfl) ?_))
 refine (hR _).mono ?_
 rintro e v4 ⟨rfl,hb⟩
 replace hB:=hB.trans (hb.mono hB.size)
 clear hb g2 g3 hR
 go_wp2_with fail
 go_ret
 exact ⟨rfl,hB⟩
theorem rOpenWide_run (key nn:Nat→Int) (box beside:ByteArray) (w:World) (hk:Byts 32 key) (hn:Byts 24 nn) (ht:box.size≤140737488355328) (hbs:beside.size≤281474976710656) :
  Calls Tryz.prog 75 #[.agg (WA .u8 32 key),.agg (WA .u8 24 nn),.string box,.string beside] w fun e w'=>e=.returned (.tuple #[.string (openT (der key nn) (tailN fun j=>nn (16+j)) box beside).1,.int .i64 (openT (der key nn) (tailN fun j=>nn (16+j)) box beside).2])∧Below w.heap.size w w':=by
 have g0:ArrAt ((w.alloc (.cells (WA .u8 32 key) 22)).alloc (.cells (WA .u8 24 nn) 53)) w.heap.size .u8 22 32 key:=heap_alloc2_old w _ _
 have g1:ArrAt ((w.alloc (.cells (WA .u8 32 key) 22)).alloc (.cells (WA .u8 24 nn) 53)) (w.heap.size+1) .u8 53 24 nn:=heap_alloc2_new w _ _
 have hB:Below w.heap.size w ((w.alloc (.cells (WA .u8 32 key) 22)).alloc (.cells (WA .u8 24 nn) 53)):=((Below.refl _ w).alloc (by simp) _).alloc (by simp) _
 have hR:=fun w=>rOpen_run (der key nn) (tailN fun j=>nn (16+j)) box beside w (der_b key nn) (tailN_b (fun i hi=>hn (16+i) (by omega))) ht hbs
 have hN:=fun w=>rnarrow_run key nn w hk hn
 generalize der key nn=kk at *
 generalize (tailN fun j=>nn (16+j))=tt at *
 generalize openT kk tt box beside=x at *
 clear ht
 go_enter Tryz.func75,Tryz.ntmps75
 go_wp2_with (first|(refine ld_arr isArr32 g0 (by rfl) ?_)|(refine ld_arr isArr24 g1 (by rfl) ?_))
 refine (hN _).mono ?_
 rintro e v1 ⟨rfl,hb⟩
 replace hB:=hB.trans (hb.mono hB.size)
 clear hb g0 g1 hN
 have gA:=fun o o' (ho:o=Obj.cells (WA .u8 32 fun _=>0) 22 (0,0))=>(by rw[ho];exact heap_alloc2_old v1 _ _:ArrAt ((v1.alloc o).alloc o') v1.heap.size .u8 22 32 (fun _=>0))
 have gB:=fun o o' (ho:o'=Obj.cells (WA .u8 12 fun _=>0) 26 (0,0))=>(by rw[ho];exact heap_alloc2_new v1 _ _:ArrAt ((v1.alloc o).alloc o') (v1.heap.size+1) .u8 26 12 (fun _=>0))
 have HBS:=Hid.mk hB.size
 have HBA:Hid (∀ A B,Below w.heap.size w ((v1.alloc A).alloc B)):=Hid.mk (fun A B=>(hB.alloc hB.size A).alloc (by have:=hB.size;simp;omega) B)
 clear hB
 go_wp2_with (refine st_arr isArr32 (gA _ _ rfl) (by rfl) (by rfl) ?_;intro v2 g2 o2;refine Hid.out ?_)
 replace gB:=(gB _ _ rfl).only o2 (by omega)
 have hB:=(HBA.out _ _).trans (o2.below HBS.out)
 clear gA o2 HBA
 refine Hid.mk ?_
 go_wp2_with (refine st_arr isArr12 gB (by rfl) (by rfl) ?_;intro v3 g3 o3;refine Hid.out ?_)
 replace g2:=g2.only o3 (by omega)
 replace hB:=hB.trans (o3.below (by have:=HBS.out;omega))
 clear o3 gB HBS
 refine Hid.mk ?_
 go_wp2_with (first|(refine ld_arr isArr32 g2 (by rfl) ?_)|(refine ld_arr isArr12 g3 (by rfl) ?_))
 refine (hR _).mono ?_
 rintro e v4 ⟨rfl,hb⟩
 replace hB:=hB.trans (hb.mono hB.size)
 clear hb g2 g3 hR
 go_wp2_with fail
 exact bodyPost_ret (v:=.tuple #[.string x.1,.int .i64 x.2]) (results_two Tryz.results75 (by rfl) (by rfl)) rfl ⟨rfl,hB⟩
theorem enterText7 (args:Array Value) (w:World):(callFunc 38 args).run Tryz.prog w=.ok (.enter 38 args) w:=by kernel_rfl
theorem rtext_run (k:Nat→Int) (w:World) (hk:Byts 32 k):Calls Tryz.prog 38 #[.agg (WA .u8 32 k)] w fun e w'=>e=.returned (.string (mkS 32 k))∧Below w.heap.size w w':=by
 have g0:ArrAt (w.alloc (.cells (WA .u8 32 k) 22)) w.heap.size .u8 22 32 k:=heap_alloc_new w _
 have hB:Below w.heap.size w (w.alloc (.cells (WA .u8 32 k) 22)):=(Below.refl _ w).alloc (Nat.le_refl _) _
 have hcv:=str_back 32 w.heap.size 32 _ 32 k g0.row (fun j hj=>hk j hj) rfl
 go_enter Tryz.func38,Tryz.ntmps38
 go_wp2_with fail
 go_ret
 exact ⟨rfl,hB⟩
section
variable {w w':World} {b:Nat} {H C:Nat→Int}
end
theorem belT (b:Nat) {w w':World} (h:Below w.heap.size w w'):Touch (fun x=>x=b) w w':=⟨h.os,h.tape,h.output,h.size,fun k hk _=>h.block k hk⟩
def mixH (H:Nat→Int) (s:ByteArray):Nat→Int:=sumF (mkS 32 H++s)
theorem mixH_b (H:Nat→Int) (s:ByteArray) (n:Nat):Byts n (mixH H s):=fun i _=>outF_b _ i
def chn (C:Nat→Int) (s:ByteArray):Nat→Nat→Int:=chK (macF (mkS 32 C) s)
theorem chn_b (C:Nat→Int) (s:ByteArray) (i n:Nat):Byts n (chn C s i):=fun j _=>macF_b _ _ j
def nameT:ByteArray:=⟨#[78,111,105,115,101,95,73,75,112,115,107,50,95,50,53,53,49,57,95,67,104,97,67,104,97,80,111,108,121,95,66,76,65,75,69,50,115]⟩
def begC:Nat→Int:=sumF nameT
def begH (t:Nat→Int):Nat→Int:=mixH (mixH begC ⟨#[97,100,105,116,32,49]⟩) (mkS 32 t)
theorem begC_b (n:Nat):Byts n begC:=fun i _=>outF_b _ i
end Go.Proofs.YthghcjepdhkfdaaGreatDoor
namespace Go.Proofs.YthghcjepdhkfdaaGreatDoor.Fld
open Go.RowKit Go.Proofs
theorem limb_V4 {n:Int} (h0:0≤n) (h1:n<W256):V4 (limb n 0) (limb n 8) (limb n 16) (limb n 24)=n:=by
 unfold V4 limb W256 at *
 omega
theorem canon_any (n:Int) (w:World) (h0:0≤n) (h1:n<W256) :
  Calls Tryz.prog 100 #[.agg (BA n)] w fun e w'=>e=.returned (.agg (BA (n%P255)))∧Below w.heap.size w w':=by
 go_enter Tryz.func100,Tryz.ntmps100
 go_wp2_with (refine ld_bytes rfl _ rfl _ _ rfl (heap_alloc2_old w _ _) (BA_size _) ?_)
 refine (load_any n _).mono ?_
 rintro e w1 ⟨rfl,hb1⟩
 have g1:=bheap hb1 (heap_alloc2_new w _ _) (by simp<;>omega)
 have hB1:Hid (Below w.heap.size w w1):=by
  refine Below.trans ?_ (hb1.mono (by simp<;>omega))
  repeat first | exact Below.refl _ _ | refine Below.alloc ?_ (by simp<;>omega) _
 clear hb1
 go_wp2_with fail
 refine (store_any _ _ _ _ _ (limb_u64 _ _) (limb_u64 _ _) (limb_u64 _ _) (limb_u64 _ _)).mono ?_
 rintro e w2 ⟨rfl,hb2⟩
 have g2:=bheap hb2 g1 (heap_lt g1)
 have hB2:Hid (Below w.heap.size w w2):=Below.trans hB1.out (hb2.mono hB1.out.size)
 clear hb2 g1
 go_wp2_with (refine st_bytes rfl _ _ rfl _ _ rfl rfl _ g2 rfl ?_;intro w3 g3 o3)
 refine bodyPost_ret (v:=.agg (BA (n%P255))) ?_ rfl ⟨rfl,Below.trans hB2.out (Only.below (b:=w.heap.size+1) (B:=w.heap.size) o3 (by omega))⟩
 rw[limb_V4 h0 h1] at g3
 exact results_cell_row rfl _ _ _ _ _ _ _ rfl g3 Tryz.underlying22 rfl (by rw[BA_size];exact info32)
theorem neg_wrap (n:Int) (h0:-9223372036854775808≤n) (h1:n<0):IntKind.u64.wrap (-IntKind.u64.wrap n)=-n:=by
 rw[IntKind.wrap_u64,IntKind.wrap_u64];omega
theorem pos_wrap (n:Int) (h0:0≤n) (h1:n<9223372036854775808):IntKind.u64.wrap n=n:=by
 rw[IntKind.wrap_u64];omega
theorem V4_one (n:Int):V4 n 0 0 0=n:=by unfold V4;omega
theorem neg_mod {n z:Int} (h:z=P255-(-n)):z%P255=n%P255:=by
 rw[h,show P255-(-n)=n+P255 by omega,Int.add_emod_right]
theorem of_any (n:Int) (w:World) (hP:PrimeAt w) (h0:-9223372036854775808≤n) (h1:n<9223372036854775808) :
  Calls Tryz.prog 58 #[.int .i64 n] w fun e w'=>e=.returned (.agg (BA (n%P255)))∧Below w.heap.size w w':=by
 have hp0:=primeAt_pos hP
 have HP:=Hid.mk hP
 clear hP
 by_cases hn:n<0
 ·have hw:=neg_wrap n h0 hn
  go_enter Tryz.func58,Tryz.ntmps58
  go_wp2_with fail
  refine (opposite_any _ _ _ _ _ (primeAt_below HP.out ((Below.refl _ _).alloc (Nat.le_refl _) _) hp0) (by unfold U64;omega) u64_0 u64_0 u64_0 (by rw[V4_one];unfold P255;omega)).mono ?_
  rintro e w1 ⟨z0,z1,z2,z3,hz0,hz1,hz2,hz3,ez,rfl,hb1⟩
  have g1:=bheap hb1 (heap_alloc_new w _) (by simp<;>omega)
  have hB1:Hid (Below w.heap.size w w1):=Below.trans ((Below.refl _ _).alloc (Nat.le_refl _) _) (hb1.mono (by simp<;>omega))
  have EZ:=Hid.mk ez
  clear hb1 ez
  go_wp2_with fail
  refine (store_any _ _ _ _ _ hz0 hz1 hz2 hz3).mono ?_
  rintro e w2 ⟨rfl,hb2⟩
  have g2:=bheap hb2 g1 (heap_lt g1)
  have hB2:Hid (Below w.heap.size w w2):=Below.trans hB1.out (hb2.mono hB1.out.size)
  clear hb2 g1
  go_wp2_with (refine st_bytes rfl _ _ rfl _ _ rfl rfl _ g2 rfl ?_;intro w3 g3 o3)
  refine bodyPost_ret (v:=.agg (BA (n%P255))) ?_ rfl ⟨rfl,Below.trans hB2.out (Only.below (b:=w.heap.size) (B:=w.heap.size) o3 (by omega))⟩
  have ez:=EZ.out
  rw[V4_one] at ez
  rw[neg_mod ez] at g3
  exact results_cell_row rfl _ _ _ _ _ _ _ rfl g3 Tryz.underlying22 rfl (by rw[BA_size];exact info32)
 ·have hw:=pos_wrap n (by omega) h1
  go_enter Tryz.func58,Tryz.ntmps58
  go_wp2_with fail
  refine (store_any _ _ _ _ _ (by unfold U64;omega) u64_0 u64_0 u64_0).mono ?_
  rintro e w2 ⟨rfl,hb2⟩
  have g2:=bheap hb2 (heap_alloc_new w _) (by simp<;>omega)
  have hB2:Hid (Below w.heap.size w w2):=Below.trans ((Below.refl _ _).alloc (Nat.le_refl _) _) (hb2.mono (by simp<;>omega))
  clear hb2
  go_wp2_with (refine st_bytes rfl _ _ rfl _ _ rfl rfl _ g2 rfl ?_;intro w3 g3 o3)
  refine bodyPost_ret (v:=.agg (BA (n%P255))) ?_ rfl ⟨rfl,Below.trans hB2.out (Only.below (b:=w.heap.size) (B:=w.heap.size) o3 (by omega))⟩
  rw[V4_one] at g3
  exact results_cell_row rfl _ _ _ _ _ _ _ rfl g3 Tryz.underlying22 rfl (by rw[BA_size];exact info32)
end Go.Proofs.YthghcjepdhkfdaaGreatDoor.Fld
namespace Go.Proofs.YthghcjepdhkfdaaGreatDoor.Fld
open Go
section
variable {P:Program} {ops:Array Oper} {Q:Exit→Act→World→Prop} {md:Region.Mode} {S:World→Prop} {T:Nat→Bool}
def wpAnyT (P:Program) (md:Region.Mode) (ops:Array Oper) (Q:Exit→Act→World→Prop) (S:World→Prop) (T:Nat→Bool):Nat→Array Bool→Act→World→Prop
 | 0,listed,a,w=>Region.ready md ops listed=[]∧Q .normal a w
 | fuel+1,listed,a,w =>
  (Region.ready md ops listed=[]→Q .normal a w) ∧
  ∀ i∈Region.ready md ops listed,wpOp P ops Q i (fun a' w'=>(T i=true→S w→S w')∧wpAnyT P md ops Q S T fuel (listed.setIfInBounds i true) a' w') a w
theorem wpAny_of_T:∀ (fuel:Nat) (listed:Array Bool) (a:Act) (w:World),wpAnyT P md ops Q S T fuel listed a w→wpAny P md ops Q fuel listed a w
 | 0,_,_,_,h=>h
 | fuel+1,_,_,_,h=>⟨h.1,fun i hi=>wpOp_mono (fun a' w' h'=>wpAny_of_T fuel _ a' w' h'.2) (h.2 i hi)⟩
def waits (md:Region.Mode) (oj:Oper) (i:Nat):Bool:=oj.after.any fun e=>Region.binds md e && e.on==i
theorem waits_spec {oj:Oper} {i:Nat} (h:waits md oj i=true):∃ e∈oj.after,Region.binds md e=true∧e.on=i:=by
 obtain ⟨e,he,hb⟩:=Array.any_eq_true'.1 h
 simp only[Bool.and_eq_true,beq_iff_eq] at hb
 exact ⟨e,he,hb.1,hb.2⟩
theorem wpAnyT_first {i:Nat} {oi:Oper} {v:Value} (hi:ops[i]?=some oi) (hsel:∀ (j:Nat) (o:Oper) cs b,ops[j]?=some o→o.op≠.select cs b)
  (hQ:∀ c a w,Q (.panic c) (a.put oi.dst v) w→Q (.panic c) a w) :
  ∀ (fuel:Nat) (listed:Array Bool) (a:Act) (w:World),
   (∀ j oj,ops[j]?=some oj→j≠i→listed.getD j true=false→(∀ e∈oj.after,Region.binds md e=true→e.on≠i)→oi.apart ops oj=true) →
   (∀ j oj,ops[j]?=some oj→j≠i→listed.getD j true=false→T j=false→∃ e∈oj.after,Region.binds md e=true∧e.on=i) →
   i∈Region.ready md ops listed→YieldsIf P ops S oi v a→S w →
   wpAnyT P md ops Q S T fuel (listed.setIfInBounds i true) (a.put oi.dst v) w→wpAnyT P md ops Q S T (fuel+1) listed a w:=by
 intro fuel
 induction fuel with
 | zero =>
  intro listed a w _ _ hr hy hS H
  refine ⟨fun h=>(by rw[h] at hr;cases hr),fun j hj=>?_⟩
  by_cases hji:j=i
  ·subst hji;exact hy.wpOp hi hS ⟨fun _ h=>h,H⟩
  ·have:=ready_mono hj hji
   rw[H.1] at this
   cases this
 | succ fuel ih =>
  intro listed a w hfree hT hr hy hS H
  refine ⟨fun h=>(by rw[h] at hr;cases hr),fun j hj=>?_⟩
  by_cases hji:j=i
  ·subst hji;exact hy.wpOp hi hS ⟨fun _ h=>h,H⟩
  ·have h1:=H.2 j (ready_mono hj hji)
   obtain ⟨hjun,oj,hoj,hall⟩:=mem_ready.1 hj
   have hnot:∀ e∈oj.after,Region.binds md e=true→e.on≠i:=fun e he hb heq=>by
    have h1:=hall e he hb
    have h0:=(mem_ready.1 hr).1
    rw[heq] at h1
    rcases Nat.lt_or_ge i listed.size with h' | h'
    ·simp[h'] at h0 h1;rw[h0] at h1;cases h1
    ·simp[Array.getElem?_eq_none h'] at h1
   have hTj:T j=true:=by
    cases hq:T j with
    | true=>rfl
    | false=>obtain ⟨e,he,hb,ho⟩:=hT j oj hoj hji hjun hq;exact absurd ho (hnot e he hb)
   have h2:=wpOp_putIf hoj (hfree j oj hoj hji hjun hnot) (fun cs b=>hsel i oi cs b hi) (fun cs b=>hsel j oj cs b hoj) hQ hy h1
   have hun:∀ k,(listed.setIfInBounds j true).getD k true=false→listed.getD k true=false:=fun k hk=>by
    by_cases hjk:j=k
    ·subst hjk;exact hjun
    ·rw[getD_set_ne true hjk] at hk;exact hk
   refine wpOp_mono (fun a' w' h3=>⟨h3.2.1,ih (listed.setIfInBounds j true) a' w' (fun k ok hk hki hu hno=>hfree k ok hk hki (hun k hu) hno)
    (fun k ok hk hki hu ht=>hT k ok hk hki (hun k hu) ht) (ready_mono hr (Ne.symm hji)) h3.1 (h3.2.1 hTj hS) ?_⟩) h2
   rw[Array.setIfInBounds_comm _ _ hji]
   exact h3.2.2
theorem wpAnyT_firstW {i:Nat} {oi:Oper} {v:Value} (hi:ops[i]?=some oi) (hsel:∀ (j:Nat) (o:Oper) cs b,ops[j]?=some o→o.op≠.select cs b)
  (hQ:∀ c a w,Q (.panic c) (a.put oi.dst v) w→Q (.panic c) a w) :
  ∀ (fuel:Nat) (listed:Array Bool) (a:Act) (w:World),
   (∀ j oj,ops[j]?=some oj→j≠i→listed.getD j true=false→(∀ e∈oj.after,Region.binds md e=true→e.on≠i)→oi.apart ops oj=true) →
   i∈Region.ready md ops listed→YieldsIf P ops (fun _=>True) oi v a →
   wpAnyT P md ops Q S T fuel (listed.setIfInBounds i true) (a.put oi.dst v) w→wpAnyT P md ops Q S T (fuel+1) listed a w:=by
 intro fuel
 induction fuel with
 | zero =>
  intro listed a w _ hr hy H
  refine ⟨fun h=>(by rw[h] at hr;cases hr),fun j hj=>?_⟩
  by_cases hji:j=i
  ·subst hji;exact hy.wpOp hi trivial ⟨fun _ h=>h,H⟩
  ·have:=ready_mono hj hji
   rw[H.1] at this
   cases this
 | succ fuel ih =>
  intro listed a w hfree hr hy H
  refine ⟨fun h=>(by rw[h] at hr;cases hr),fun j hj=>?_⟩
  by_cases hji:j=i
  ·subst hji;exact hy.wpOp hi trivial ⟨fun _ h=>h,H⟩
  ·have h1:=H.2 j (ready_mono hj hji)
   obtain ⟨hjun,oj,hoj,hall⟩:=mem_ready.1 hj
   have hnot:∀ e∈oj.after,Region.binds md e=true→e.on≠i:=fun e he hb heq=>by
    have h1:=hall e he hb
    have h0:=(mem_ready.1 hr).1
    rw[heq] at h1
    rcases Nat.lt_or_ge i listed.size with h' | h'
    ·simp[h'] at h0 h1;rw[h0] at h1;cases h1
    ·simp[Array.getElem?_eq_none h'] at h1
   have h2:=wpOp_putIf hoj (hfree j oj hoj hji hjun hnot) (fun cs b=>hsel i oi cs b hi) (fun cs b=>hsel j oj cs b hoj) hQ hy h1
   have hun:∀ k,(listed.setIfInBounds j true).getD k true=false→listed.getD k true=false:=fun k hk=>by
    by_cases hjk:j=k
    ·subst hjk;exact hjun
    ·rw[getD_set_ne true hjk] at hk;exact hk
   refine wpOp_mono (fun a' w' h3=>⟨h3.2.1,ih (listed.setIfInBounds j true) a' w' (fun k ok hk hki hu hno=>hfree k ok hk hki (hun k hu) hno)
    (ready_mono hr (Ne.symm hji)) h3.1 ?_⟩) h2
   rw[Array.setIfInBounds_comm _ _ hji]
   exact h3.2.2
def mixB (md:Region.Mode) (ops:Array Oper) (F:Nat→Nat) (T:Nat→Bool):List Nat→Array Bool→Bool
 | [],listed=>(Region.ready md ops listed).isEmpty
 | i::l,listed =>
  (match F i with
   | 0=>Region.ready md ops listed==[i]
   | 1=>(Region.ready md ops listed).contains i && Region.free md ops listed i &&
    (List.range ops.size).all (fun j=>j==i || listed.getD j true || T j || match ops[j]? with | some oj=>waits md oj i | none=>true)
   | _=>(Region.ready md ops listed).contains i && Region.free md ops listed i) && mixB md ops F T l (listed.setIfInBounds i true)
def wpMix (P:Program) (ops:Array Oper) (Q:Exit→Act→World→Prop) (S:World→Prop) (F:Nat→Nat) (T:Nat→Bool):List Nat→Act→World→Prop
 | [],a,w=>Q .normal a w
 | i::l,a,w=>match F i with
  | 0=>wpOp P ops Q i (fun a' w'=>(T i=true→S w→S w')∧wpMix P ops Q S F T l a' w') a w
  | 1=>∃ o v,ops[i]?=some o∧YieldsIf P ops S o v a∧S w∧wpMix P ops Q S F T l (a.put o.dst v) w
  | _=>∃ o v,ops[i]?=some o∧YieldsIf P ops (fun _=>True) o v a∧wpMix P ops Q S F T l (a.put o.dst v) w
theorem wpAnyT_mix {F:Nat→Nat} (hs:Region.noSelect ops=true) (hQ:∀ c a d v w,Q (.panic c) (a.put d v) w→Q (.panic c) a w) :
  ∀ (l:List Nat) (listed:Array Bool) (a:Act) (w:World),mixB md ops F T l listed=true→wpMix P ops Q S F T l a w→wpAnyT P md ops Q S T l.length listed a w
 | [],listed,a,w,hB,h=>⟨by simpa [mixB] using hB,h⟩
 | i::l,listed,a,w,hB,h=>by
  simp only[mixB,Bool.and_eq_true] at hB
  obtain ⟨hB1,hB2⟩:=hB
  simp only[wpMix] at h
  match hF:F i with
  | 0 =>
   simp only[hF,beq_iff_eq] at hB1 h
   refine ⟨fun h0=>(by rw[hB1] at h0;cases h0),fun j hj=>?_⟩
   rw[hB1] at hj
   obtain rfl:j=i:=by simpa using hj
   exact wpOp_mono (fun a' w' h'=>⟨h'.1,wpAnyT_mix hs hQ l _ _ _ hB2 h'.2⟩) h
  | 1 =>
   simp only[hF,Bool.and_eq_true] at hB1 h
   obtain ⟨⟨hr,hf⟩,hw⟩:=hB1
   obtain ⟨o,v,ho,hy,hS,hrest⟩:=h
   refine wpAnyT_first ho (Region.noSelect_spec hs) (fun c a w=>hQ c a _ _ w) _ listed a w (Region.free_spec ho hf) (fun j oj hj hji hun ht=>?_) (by simpa using hr) hy hS (wpAnyT_mix hs hQ l _ _ _ hB2 hrest)
   have hjlt:j<ops.size:=(Array.getElem?_eq_some_iff.1 hj).1
   have h1:=List.all_eq_true.1 hw j (List.mem_range.2 hjlt)
   simp only[hun,ht,hj,Bool.or_false,Bool.or_eq_true,beq_iff_eq] at h1
   rcases h1 with h1 | h1
   ·exact absurd h1 hji
   ·exact waits_spec h1
  | n+2 =>
   simp only[hF,Bool.and_eq_true] at hB1 h
   obtain ⟨hr,hf⟩:=hB1
   obtain ⟨o,v,ho,hy,hrest⟩:=h
   exact wpAnyT_firstW ho (Region.noSelect_spec hs) (fun c a w=>hQ c a _ _ w) _ listed a w (Region.free_spec ho hf) (by simpa using hr) hy (wpAnyT_mix hs hQ l _ _ _ hB2 hrest)
theorem wp_region_mix {id:Nat} {a:Act} {w:World} (S:World→Prop) (F:Nat→Nat) (T:Nat→Bool) (l:List Nat) (hm:P.follows .mixedOrders=true)
  (hB:(Region.noSelect ops && l.length==ops.size && mixB .any ops F T l (Array.replicate ops.size false))=true)
  (hQ:∀ c a d v w,Q (.panic c) (a.put d v) w→Q (.panic c) a w)
  (h:wpMix P ops Q S F T l a w.drew):(Code.region id ops true).wp P Q a w:=by
 simp only[Bool.and_eq_true,beq_iff_eq] at hB
 obtain ⟨⟨hs,hl⟩,hB⟩:=hB
 refine wp_region_any hm (wpAny_of_T (S:=S) (T:=T) _ _ _ _ ?_)
 have:=wpAnyT_mix (S:=S) hs hQ l _ a _ hB h
 rw[hl] at this
 exact this
theorem wp_region_mixS {id:Nat} {a:Act} {w:World} (S:World→Prop) (F:Nat→Nat) (T:Nat→Bool) (l:List Nat) (hm:P.follows .mixedOrders=true)
  (hB:(Region.noSelect ops && l.length==ops.size && mixB .any ops F T l (Array.replicate ops.size false))=true)
  (hQ:∀ c a d v w,Q (.panic c) (a.put d v) w→Q (.panic c) a w) (hS:S w.drew)
  (h:S w.drew→wpMix P ops Q S F T l a w.drew):(Code.region id ops true).wp P Q a w:=wp_region_mix S F T l hm hB hQ (h hS)
theorem at_drop {i:Nat} {o:Oper} {rest:List Oper} (ho:ops.toList.drop i=o::rest):ops[i]?=some o:=by
 rw[← Array.getElem?_toList]
 have h:=congrArg (fun l=>l[0]?) ho
 simpa [List.getElem?_drop] using h
theorem mix_look {F:Nat→Nat} {i:Nat} {l:List Nat} {o:Oper} {v:Value} {a:Act} {w:World} (hF:F i=1) {rest:List Oper} (ho:ops.toList.drop i=o::rest) (hw:Region.wanted o (yielded ops a.tmps)=true) (hS:S w)
  (hy:∀ w,S w→(execOp a.eval o).run P w=.ok (.value v) w) (h:wpMix P ops Q S F T l (a.put o.dst v) w):wpMix P ops Q S F T (i::l) a w:=by
 simp only[wpMix,hF]
 exact ⟨o,v,at_drop ho,.inl ⟨hw,hy⟩,hS,h⟩
theorem mix_pure {F:Nat→Nat} {i:Nat} {l:List Nat} {o:Oper} {v:Value} {a:Act} {w:World} (hF:F i=2) {rest:List Oper} (ho:ops.toList.drop i=o::rest) (hw:Region.wanted o (yielded ops a.tmps)=true)
  (hy:∀ w,(execOp a.eval o).run P w=.ok (.value v) w) (h:wpMix P ops Q S F T l (a.put o.dst v) w):wpMix P ops Q S F T (i::l) a w:=by
 simp only[wpMix,hF]
 exact ⟨o,v,at_drop ho,.inl ⟨hw,fun w _=>hy w⟩,h⟩
theorem mix_act {F:Nat→Nat} {i:Nat} {l:List Nat} {o:Oper} {a:Act} {w:World} (hF:F i=0) {rest:List Oper} (ho:ops.toList.drop i=o::rest) (hw:Region.wanted o (yielded ops a.tmps)=true)
  (h:∀ K:Act→World→Prop,(∀ a w',(T i=true→S w→S w')→wpMix P ops Q S F T l a w'→K a w')→o.wp P a w K Q):wpMix P ops Q S F T (i::l) a w:=by
 simp only[wpMix,hF,wpOp,at_drop ho,hw,if_true]
 exact .inl (h _ (fun a w h1 h2=>⟨h1,h2⟩))
theorem mix_done {F:Nat→Nat} {a:Act} {w:World} (h:Q .normal a w):wpMix P ops Q S F T [] a w:=h
end
end Go.Proofs.YthghcjepdhkfdaaGreatDoor.Fld
namespace Go.Proofs.YthghcjepdhkfdaaGreatDoor.Fld
open Go.RowKit Go.Proofs
theorem look_bytes {a:Act} {o:Oper} {x:Operand} {w:World} (ho:o.op=.load 22 x) (g:Nat) (cs:Array Value) (hx:a.eval x=.pointer (some ⟨g,0,none⟩)) (hs:cs.size=32)
  (hg:w.heap[g]?=some (.cells cs 22 (0,0))):(execOp a.eval o).run Tryz.prog w=.ok (.value (.agg cs)) w:=by
 unfold execOp
 simp only[ho,hx,Instr.loadAt,Instr.sureAddr,Sem.run_bind,Sem.run_pure,Result.andThen_ok,run_loadVar_row w g 22 22 cs (0,0) _ hg Tryz.underlying22 rfl (by rw[hs];exact info32)]
theorem look_limbs {a:Act} {o:Oper} {x:Operand} {w:World} (ho:o.op=.load 142 x) (g:Nat) (v0 v1 v2 v3:Value) (hx:a.eval x=.pointer (some ⟨g,0,none⟩))
  (hg:w.heap[g]?=some (.cells #[v0,v1,v2,v3] 142 (0,0))):(execOp a.eval o).run Tryz.prog w=.ok (.value (.agg #[v0,v1,v2,v3])) w:=by
 unfold execOp
 simp only[ho,hx,Instr.loadAt,Instr.sureAddr,Sem.run_bind,Sem.run_pure,Result.andThen_ok,run_loadVar_row w g 142 142 _ (0,0) _ hg Tryz.underlying142 rfl (by kernel_rfl)]
theorem act_bytes {a:Act} {o:Oper} {w:World} {K:Act→World→Prop} {Q:Exit→Act→World→Prop} (x y:Operand) (ho:o.op=.store 22 x y)
  (g:Nat) (n:Int) (hx:a.eval x=.pointer (some ⟨g,0,none⟩)) (hy:a.eval y=.agg (BA n)) (old:Array Value) (hg:w.heap[g]?=some (.cells old 22 (0,0))) (hold:old.size=32)
  (h:∀ w2,w2.heap[g]?=some (.cells (BA n) 22 (0,0))→Only g w w2→K (a.put o.dst undef) w2):o.wp Tryz.prog a w K Q :=
 wp_store_row 22 x y ho g _ hx hy 22 old hg (by rw[BA_size];exact info32) (by rw[BA_size];exact hold) (BA_one n) (h _ (setRow_heap w g old _ 22 (0,0) hg) (only_setRow w g _))
theorem act_limbs {a:Act} {o:Oper} {w:World} {K:Act→World→Prop} {Q:Exit→Act→World→Prop} (x y:Operand) (ho:o.op=.store 142 x y)
  (g:Nat) (y0 y1 y2 y3:Int) (hx:a.eval x=.pointer (some ⟨g,0,none⟩)) (hy:a.eval y=.agg #[.int .u64 y0,.int .u64 y1,.int .u64 y2,.int .u64 y3]) (v0 v1 v2 v3:Value) (hg:w.heap[g]?=some (.cells #[v0,v1,v2,v3] 142 (0,0)))
  (h:∀ w2,w2.heap[g]?=some (.cells #[.int .u64 y0,.int .u64 y1,.int .u64 y2,.int .u64 y3] 142 (0,0))→Only g w w2→K (a.put o.dst undef) w2):o.wp Tryz.prog a w K Q :=
 wp_store_row 142 x y ho g _ hx hy 142 _ hg (by kernel_rfl) rfl (by simp[Value.oneCell']) (h _ (setRow_heap w g _ _ 142 (0,0) hg) (only_setRow w g _))
theorem heap_a32 (w:World) (A B C:Obj):(((w.alloc A).alloc B).alloc C).heap[w.heap.size+1]?=some B:=by
 rw[Below.heap_alloc _ _ _ (by simp<;>omega)]
 exact heap_alloc2_new w A B
theorem heap_a31 (w:World) (A B C:Obj):(((w.alloc A).alloc B).alloc C).heap[w.heap.size]?=some A:=by
 rw[Below.heap_alloc _ _ _ (by simp<;>omega)]
 exact heap_alloc2_old w A B
theorem mod_lt_P (n:Int):0≤n%P255∧n%P255<P255:=⟨Int.emod_nonneg _ (by unfold P255;decide),Int.emod_lt_of_pos _ (by unfold P255;decide)⟩
theorem sub_num {z a b y o k:Int} (e1:y=b%P255) (e2:o=P255-y) (e3:z=a+o+k*P255):z%P255=(a-b)%P255:=by
 have hb:b=P255*(b/P255)+b%P255:=(Int.mul_ediv_add_emod b P255).symm
 have:z=(a-b)+P255*(1+k+b/P255):=by rw[e3,e2,e1];rw[Int.mul_add,Int.mul_add,Int.mul_one,Int.mul_comm P255 k];omega
 rw[this,Int.add_mul_emod_self_left]
def subF (i:Nat):Nat:=[1,0,1].getD i 0
def subT (i:Nat):Bool:=i != 8
theorem sub_any (a b:Int) (w:World) (hP:PrimeAt w) (ha0:0≤a) (ha1:a<W256) (hb0:0≤b) (hb1:b<W256) :
  Calls Tryz.prog 167 #[.agg (BA a),.agg (BA b)] w fun e w'=>e=.returned (.agg (BA ((a-b)%P255)))∧Below w.heap.size w w':=by
 have hp0:=primeAt_pos hP
 have HP:=Hid.mk hP
 clear hP
 go_enter Tryz.func167,Tryz.ntmps167
 go_wp2
 refine wp_gen (fun v=>v.heap[w.heap.size]?=some (.cells (BA a) 22 (0,0))∧v.heap[w.heap.size+1]?=some (.cells (BA b) 22 (0,0)) ∧
  (∃ z:Array Value,v.heap[w.heap.size+1+1]?=some (.cells z 22 (0,0))∧z.size=32)∧Below w.heap.size w v)
  ⟨heap_a31 w _ _ _,heap_a32 w _ _ _,⟨_,heap_a3 w _ _ _,rfl⟩,by repeat first | exact Below.refl _ _ | refine Below.alloc ?_ (by simp<;>omega) _⟩ ?_
 rintro v0 ⟨ga,gb,⟨z,gz,sz⟩,hB⟩
 refine wp_region_mixS (fun v=>v.heap[w.heap.size]?=some (.cells (BA a) 22 (0,0))∧v.heap[w.heap.size+1]?=some (.cells (BA b) 22 (0,0)))
  subF subT [0,2,1,3,4,5,6,7,8] rfl (by kernel_rfl) (fun _ _ d _ _ h=>by cases d<;>exact h) ⟨ga,gb⟩ (fun HS=>?_)
 apply mix_look rfl rfl rfl HS
 focus exact fun v h=>look_bytes rfl _ _ rfl (BA_size _) h.1
 simp only[Act.put,List.setIfInBounds_toArray,List.set_cons_zero,List.set_cons_succ]
 apply mix_look rfl rfl rfl HS
 focus exact fun v h=>look_bytes rfl _ _ rfl (BA_size _) h.2
 simp only[Act.put,List.setIfInBounds_toArray,List.set_cons_zero,List.set_cons_succ]
 clear HS ga gb
 refine mix_act rfl rfl rfl ?_
 intro K hK
 go_simp
 refine (load_any a _).mono ?_
 rintro e v1 ⟨rfl,hb⟩
 have gz:=bheap hb gz (heap_lt gz)
 have hB:=Below.trans (Below.drew hB) (hb.mono hB.size)
 refine hK _ _ (fun _ h=>⟨bheap hb h.1 (heap_lt h.1),bheap hb h.2 (heap_lt h.2)⟩) ?_
 clear hK K hb
 refine mix_act rfl rfl rfl ?_
 intro K hK
 go_simp
 refine (load_any b _).mono ?_
 rintro e v2 ⟨rfl,hb⟩
 have gz:=bheap hb gz (heap_lt gz)
 have hB:=Below.trans hB (hb.mono hB.size)
 refine hK _ _ (fun _ h=>⟨bheap hb h.1 (heap_lt h.1),bheap hb h.2 (heap_lt h.2)⟩) ?_
 clear hK K hb
 refine mix_act rfl rfl rfl ?_
 intro K hK
 go_simp
 refine (least_any _ _ _ _ _ (limb_u64 _ _) (limb_u64 _ _) (limb_u64 _ _) (limb_u64 _ _)).mono ?_
 rintro e v3 ⟨y0,y1,y2,y3,hy0,hy1,hy2,hy3,ey,rfl,hb⟩
 have gz:=bheap hb gz (heap_lt gz)
 have hB:=Below.trans hB (hb.mono hB.size)
 refine hK _ _ (fun _ h=>⟨bheap hb h.1 (heap_lt h.1),bheap hb h.2 (heap_lt h.2)⟩) ?_
 clear hK K hb
 rw[limb_V4 hb0 hb1] at ey
 have hy:=(mod_lt_P b).2
 have EY:=Hid.mk ey
 have hle:V4 y0 y1 y2 y3≤P255:=by rw[ey];omega
 clear ey hy
 have HL:=Hid.mk hle
 clear hle
 refine mix_act rfl rfl rfl ?_
 intro K hK
 go_simp
 refine (opposite_any _ _ _ _ _ (primeAt_below HP.out hB hp0) hy0 hy1 hy2 hy3 HL.out).mono ?_
 rintro e v4 ⟨o0,o1,o2,o3,ho0,ho1,ho2,ho3,eo,rfl,hb⟩
 have gz:=bheap hb gz (heap_lt gz)
 have hB:=Below.trans hB (hb.mono hB.size)
 refine hK _ _ (fun _ h=>⟨bheap hb h.1 (heap_lt h.1),bheap hb h.2 (heap_lt h.2)⟩) ?_
 clear hK K hb
 have EO:=Hid.mk eo
 clear eo
 refine mix_act rfl rfl rfl ?_
 intro K hK
 go_simp
 refine (plus_any _ _ _ _ _ _ _ _ _ (limb_u64 _ _) (limb_u64 _ _) (limb_u64 _ _) (limb_u64 _ _) ho0 ho1 ho2 ho3).mono ?_
 rintro e v5 ⟨q0,q1,q2,q3,hq0,hq1,hq2,hq3,⟨k,ek⟩,rfl,hb⟩
 have gz:=bheap hb gz (heap_lt gz)
 have hB:=Below.trans hB (hb.mono hB.size)
 refine hK _ _ (fun _ h=>⟨bheap hb h.1 (heap_lt h.1),bheap hb h.2 (heap_lt h.2)⟩) ?_
 clear hK K hb
 rw[limb_V4 ha0 ha1] at ek
 have EK:=Hid.mk (sub_num EY.out EO.out ek)
 clear ek
 refine mix_act rfl rfl rfl ?_
 intro K hK
 go_simp
 refine (store_any _ _ _ _ _ hq0 hq1 hq2 hq3).mono ?_
 rintro e v6 ⟨rfl,hb⟩
 have gz:=bheap hb gz (heap_lt gz)
 have hB:=Below.trans hB (hb.mono hB.size)
 refine hK _ _ (fun _ h=>⟨bheap hb h.1 (heap_lt h.1),bheap hb h.2 (heap_lt h.2)⟩) ?_
 clear hK K hb
 refine mix_act rfl rfl rfl ?_
 intro K hK
 refine act_bytes _ _ rfl _ _ rfl rfl _ gz sz ?_
 intro v7 g7 o7
 refine hK _ _ (fun h=>by cases h) ?_
 clear hK K
 refine mix_done ?_
 go_wp2
 rw[EK.out] at g7
 exact bodyPost_ret (v:=.agg (BA ((a-b)%P255))) (results_cell_row rfl _ _ _ _ _ _ _ rfl g7 Tryz.underlying22 rfl (by rw[BA_size];exact info32)) rfl
  ⟨rfl,Below.trans hB (Only.below (b:=w.heap.size+1+1) (B:=w.heap.size) o7 (by omega))⟩
def RowsAt (w:World) (b off:Nat) (ns:List Int):Prop:=∀ k,k<ns.length→w.rangeAt b (off+k*32) (BA (ns.getD k 0)).toList
theorem ld_mid {ops:Array Oper} {rest:List Oper} {o:Oper} {a:Act} {w:World} {Q:Exit→Act→World→Prop} (hgd:o.guard=none) (x:Operand) (ho:o.op=.load 22 x)
  (b off:Nat) (n:Int) (hx:a.eval x=.pointer (some ⟨b,off,none⟩)) (hc:w.rangeAt b off (BA n).toList)
  (h:wpList Tryz.prog ops Q rest (a.put o.dst (.agg (BA n))) w):wpList Tryz.prog ops Q (o::rest) a w :=
 wpList_load_mid hgd 22 x ho b off hx _ _ hc Tryz.underlying22 rfl (by rw[Array.length_toList,BA_size];exact info32) (by rw[Array.toArray_toList];exact h)
theorem ld_limbs {ops:Array Oper} {rest:List Oper} {o:Oper} {a:Act} {w:World} {Q:Exit→Act→World→Prop} (hgd:o.guard=none) (x:Operand) (ho:o.op=.load 142 x)
  (g:Nat) (v0 v1 v2 v3:Value) (hx:a.eval x=.pointer (some ⟨g,0,none⟩)) (hg:w.heap[g]?=some (.cells #[v0,v1,v2,v3] 142 (0,0)))
  (h:wpList Tryz.prog ops Q rest (a.put o.dst (.agg #[v0,v1,v2,v3])) w):wpList Tryz.prog ops Q (o::rest) a w :=
 wpList_load_row hgd 142 x ho g hx 142 _ (0,0) _ hg Tryz.underlying142 rfl (by kernel_rfl) h
theorem take_sum (ns:List Int) (k:Nat) (h:k<ns.length):(ns.take (k+1)).sum=(ns.take k).sum+ns[k]:=by
 rw[List.take_succ_eq_append_getElem h,List.sum_append];simp
theorem add_step {ns:List Int} {k:Nat} {Z Q c n:Int} (hz:∃ c:Int,Z=(ns.take k).sum+c*P255) (e:Q=Z+n+c*P255) (hs:(ns.take (k+1)).sum=(ns.take k).sum+n) :
  ∃ c:Int,Q=(ns.take (k+1)).sum+c*P255:=by
 obtain ⟨d,rfl⟩:=hz
 exact ⟨d+c,by rw[e,hs,Int.add_mul];omega⟩
theorem add_last {ns:List Int} {Z:Int} (hz:∃ c:Int,Z=(ns.take ns.length).sum+c*P255):Z%P255=ns.sum%P255:=by
 obtain ⟨d,rfl⟩:=hz
 rw[List.take_length,Int.mul_comm,Int.add_mul_emod_self_left]
def addF (i:Nat):Nat:=[1,1].getD i 0
def addT (i:Nat):Bool:=i != 4
theorem add_walk (b off cap:Nat) (ns:List Int) (w:World) (hr:∀ n∈ns,0≤n∧n<W256) (hrows:RowsAt w b off ns) (hb:b<w.heap.size) (hlen:ns.length≤4611686018427387904) :
  Calls Tryz.prog 166 #[.slice (some ⟨b,off,none⟩) ns.length cap] w fun e w'=>e=.returned (.agg (BA (ns.sum%P255)))∧Below w.heap.size w w':=by
 have HR:=Hid.mk hr
 have HW:=Hid.mk hrows
 clear hr hrows
 go_enter Tryz.func166,Tryz.ntmps166
 go_wp2
 go_loopw [8] (fun i v=>∃ k:Nat,k≤ns.length∧i=.int .i64 k∧∃ z0 z1 z2 z3,U64 z0∧U64 z1∧U64 z2∧U64 z3∧(∃ c:Int,V4 z0 z1 z2 z3=(ns.take k).sum+c*P255) ∧
   v.heap[w.heap.size+1]?=some (.cells #[.int .u64 z0,.int .u64 z1,.int .u64 z2,.int .u64 z3] 142 (0,0))∧(∃ z:Array Value,v.heap[w.heap.size]?=some (.cells z 22 (0,0))∧z.size=32)∧Below w.heap.size w v)
  (fun i _=>ns.length-(intOf i).toNat)
 case atStart =>
  exact ⟨0,Nat.zero_le _,rfl,0,0,0,0,u64_0,u64_0,u64_0,u64_0,⟨0,by simp[V4]⟩,heap_alloc2_new w _ _,⟨_,heap_alloc2_old w _ _,rfl⟩,by repeat first | exact Below.refl _ _ | refine Below.alloc ?_ (by simp<;>omega) _⟩
 case round =>
  obtain ⟨k,hk,rfl,z0,z1,z2,z3,hz0,hz1,hz2,hz3,hz,gs,⟨z,gz,sz⟩,hB⟩:=hrel
  have HZ:=Hid.mk hz
  clear hz
  by_cases hlt:k<ns.length
  ·have hn:=HR.out _ (List.getElem_mem hlt)
   have hrow:wr.rangeAt b (off+k*32) (BA (ns.getD k 0)).toList:=fun j v hv=>(hB.cell hb).trans (HW.out k hlt j v hv)
   have hgd:ns.getD k 0=ns[k]:=by simp[hlt]
   rw[hgd] at hrow
   have hsn:=Hid.mk (take_sum ns k hlt)
   clear hgd
   generalize ns[k]=n at *
   have HROW:=Hid.mk hrow
   clear hrow
   go_wp2_with (first|(refine ld_mid rfl _ rfl _ _ n rfl HROW.out ?_)|(refine st_bytes rfl _ _ rfl _ n rfl rfl _ (heap_alloc_new wr _) rfl ?_;intro v1 g1 o1))
   have hsz:w.heap.size+1<wr.heap.size:=heap_lt gs
   have gs1:=(o1.block _ (by omega)).trans ((Below.heap_alloc wr _ _ hsz).trans gs)
   have gz1:=(o1.block _ (by omega)).trans ((Below.heap_alloc wr _ _ (by omega)).trans gz)
   have hB1:Below w.heap.size w v1:=Below.trans (hB.alloc (by omega) _) (Only.below (b:=wr.heap.size) (B:=w.heap.size) o1 (by omega))
   clear o1 gs gz hB
   generalize wr.heap.size=bw at *
   refine wp_region_mixS (fun v=>v.heap[w.heap.size+1]?=some (.cells #[.int .u64 z0,.int .u64 z1,.int .u64 z2,.int .u64 z3] 142 (0,0))∧v.heap[bw]?=some (.cells (BA n) 22 (0,0)))
    addF addT [0,1,2,3,4] rfl (by kernel_rfl) (fun _ _ d _ _ h=>by cases d<;>exact h) ⟨gs1,g1⟩ (fun HS=>?_)
   apply mix_look rfl rfl rfl HS
   focus exact fun v h=>look_limbs rfl _ _ _ _ _ rfl h.1
   simp only[Act.put,List.setIfInBounds_toArray,List.set_cons_zero,List.set_cons_succ]
   apply mix_look rfl rfl rfl HS
   focus exact fun v h=>look_bytes rfl _ _ rfl (BA_size _) h.2
   simp only[Act.put,List.setIfInBounds_toArray,List.set_cons_zero,List.set_cons_succ]
   clear HS g1
   refine mix_act rfl rfl rfl ?_
   intro K hK
   go_simp
   refine (load_any n _).mono ?_
   rintro e v2 ⟨rfl,hb2⟩
   have gs2:=bheap hb2 gs1 (heap_lt gs1)
   have gz2:=bheap hb2 gz1 (heap_lt gz1)
   have hB2:=Below.trans (Below.drew hB1) (hb2.mono hB1.size)
   refine hK _ _ (fun _ h=>⟨bheap hb2 h.1 (heap_lt h.1),bheap hb2 h.2 (heap_lt h.2)⟩) ?_
   clear hK K hb2 gs1 gz1 hB1
   refine mix_act rfl rfl rfl ?_
   intro K hK
   go_simp
   refine (plus_any _ _ _ _ _ _ _ _ _ hz0 hz1 hz2 hz3 (limb_u64 _ _) (limb_u64 _ _) (limb_u64 _ _) (limb_u64 _ _)).mono ?_
   rintro e v3 ⟨q0,q1,q2,q3,hq0,hq1,hq2,hq3,⟨c,ec⟩,rfl,hb3⟩
   rw[limb_V4 hn.1 hn.2] at ec
   have EC:=Hid.mk ec
   clear ec
   have gs3:=bheap hb3 gs2 (heap_lt gs2)
   have gz3:=bheap hb3 gz2 (heap_lt gz2)
   have hB3:=Below.trans hB2 (hb3.mono hB2.size)
   refine hK _ _ (fun _ h=>⟨bheap hb3 h.1 (heap_lt h.1),bheap hb3 h.2 (heap_lt h.2)⟩) ?_
   clear hK K hb3 gs2 gz2 hB2
   refine mix_act rfl rfl rfl ?_
   intro K hK
   refine act_limbs _ _ rfl _ _ _ _ _ rfl rfl _ _ _ _ gs3 ?_
   intro v4 g4 o4
   refine hK _ _ (fun h=>by cases h) ?_
   clear hK K
   refine mix_done ?_
   have gz4:=(o4.block _ (by omega)).trans gz3
   have hB4:Below w.heap.size w v4:=Below.trans hB3 (Only.below (b:=w.heap.size+1) (B:=w.heap.size) o4 (by omega))
   clear o4 gs3 gz3 hB3
   go_wp2
   go_roundw
   case rel=>exact ⟨k+1,by omega,by go_num,q0,q1,q2,q3,hq0,hq1,hq2,hq3,add_step HZ.out EC.out hsn.out,g4,⟨z,gz4,sz⟩,hB4⟩
   case measure=>simp[intOf];omega
  ·have hk2:k=ns.length:=by omega
   subst hk2
   go_wp2_with (refine ld_limbs rfl _ rfl _ _ _ _ _ rfl gs ?_)
   refine (store_any _ _ _ _ _ hz0 hz1 hz2 hz3).mono ?_
   rintro e v2 ⟨rfl,hb2⟩
   have gz2:=bheap hb2 gz (heap_lt gz)
   have hB2:=Below.trans hB (hb2.mono hB.size)
   clear hb2
   go_wp2_with (refine st_bytes rfl _ _ rfl _ _ rfl rfl _ gz2 sz ?_;intro v3 g3 o3)
   rw[add_last HZ.out] at g3
   exact bodyPost_ret (v:=.agg (BA (ns.sum%P255))) (results_cell_row rfl _ _ _ _ _ _ _ rfl g3 Tryz.underlying22 rfl (by rw[BA_size];exact info32)) rfl
    ⟨rfl,Below.trans hB2 (Only.below (b:=w.heap.size) (B:=w.heap.size) o3 (by omega))⟩
def Prod4 (a b x y lo hi:Int):Prop:=U64 lo∧U64 hi∧lo+18446744073709551616*hi=a+b+x*y
theorem Prod4.lo {a b x y lo hi:Int} (h:Prod4 a b x y lo hi):U64 lo:=h.1
theorem Prod4.hi {a b x y lo hi:Int} (h:Prod4 a b x y lo hi):U64 hi:=h.2.1
theorem mul_bound {x y:Int} (hx:U64 x) (hy:U64 y):0≤x*y∧x*y≤340282366920938463426481119284349108225:=by
 unfold U64 at hx hy
 refine ⟨Int.mul_nonneg hx.1 hy.1,?_⟩
 have:=Int.mul_le_mul (show x≤18446744073709551615 by omega) (show y≤18446744073709551615 by omega) hy.1 (by omega)
 omega
theorem plusProduct_all {a b x y:Int} (ha:U64 a) (hb:U64 b) (hx:U64 x) (hy:U64 y):∃ lo hi,Prod4 a b x y lo hi∧∀ w,
  Calls Tryz.prog 168 #[.int .u64 a,.int .u64 b,.int .u64 x,.int .u64 y] w fun e w'=>e=.returned (.tuple #[.int .u64 lo,.int .u64 hi])∧w'=w:=by
 have hm:=mul_bound hx hy
 have hH:U64 (x*y/18446744073709551616):=by unfold U64;omega
 have hL:U64 (x*y%18446744073709551616):=by unfold U64;omega
 obtain ⟨l1,c1,s1,r1⟩:=add64_all hL ha bit0
 obtain ⟨l2,c2,s2,r2⟩:=add64_all s1.lo hb bit0
 have M:=Hid.mk (fun w=>mul64_any x y w hx hy)
 have hi:Prod4 a b x y l2 (x*y/18446744073709551616+c1+c2):=by
  unfold Sum3 U64 Bit at *
  unfold Prod4 U64
  generalize x*y=z at *
  omega
 have w1:IntKind.u64.wrap (x*y/18446744073709551616+c1)=x*y/18446744073709551616+c1:=by
  rw[IntKind.wrap_u64];unfold Prod4 Sum3 U64 Bit at *;generalize x*y=z at *;omega
 have w2:IntKind.u64.wrap (x*y/18446744073709551616+c1+c2)=x*y/18446744073709551616+c1+c2:=by
  rw[IntKind.wrap_u64];unfold Prod4 Sum3 U64 Bit at *;generalize x*y=z at *;omega
 refine ⟨l2,_,hi,fun w=>?_⟩
 clear hi hm hH hL s1 s2
 generalize x*y/18446744073709551616=h at *
 generalize x*y%18446744073709551616=l at *
 go_enter Tryz.func168,Tryz.ntmps168
 go_wp2_with (go_at_call 195;refine (M.out _).mono ?_;rintro e w' ⟨rfl,rfl⟩)
 go_ret2
 exact ⟨rfl,rfl⟩
theorem wrap64_1:IntKind.i64.wrap 1=1:=by decide +kernel
theorem wrap64_2:IntKind.i64.wrap 2=2:=by decide +kernel
theorem wrap64_3:IntKind.i64.wrap 3=3:=by decide +kernel
theorem wrap64_4:IntKind.i64.wrap 4=4:=by decide +kernel
theorem wrap64_5:IntKind.i64.wrap 5=5:=by decide +kernel
theorem wrap64_6:IntKind.i64.wrap 6=6:=by decide +kernel
theorem wrap64_7:IntKind.i64.wrap 7=7:=by decide +kernel
attribute [local go_sem] wrap_0 wrap64_1 wrap64_2 wrap64_3 wrap64_4 wrap64_5 wrap64_6 wrap64_7
theorem mul_V4 (x a b c d:Int):x*V4 a b c d=V4 (x*a) (x*b) (x*c) (x*d):=by unfold V4;grind
theorem V4_mul (x a b c d:Int):V4 a b c d*x=V4 (a*x) (b*x) (c*x) (d*x):=by unfold V4;grind
theorem row_num {x y0 y1 y2 y3 w0 w1 w2 w3 p0 p1 p2 p3 c0 c1 c2 c3:Int} (s0:Prod4 w0 0 x y0 p0 c0) (s1:Prod4 w1 c0 x y1 p1 c1) (s2:Prod4 w2 c1 x y2 p2 c2) (s3:Prod4 w3 c2 x y3 p3 c3) :
  V4 p0 p1 p2 p3+W256*c3=V4 w0 w1 w2 w3+x*V4 y0 y1 y2 y3:=by
 rw[mul_V4]
 unfold Prod4 at s0 s1 s2 s3
 unfold V4 W256
 omega
theorem times_num {X0 X1 X2 X3 Y p00 p01 p02 p03 c03 p10 p11 p12 p13 c13 p20 p21 p22 p23 c23 p30 p31 p32 p33 c33:Int}
  (r0:V4 p00 p01 p02 p03+W256*c03=V4 0 0 0 0+X0*Y) (r1:V4 p10 p11 p12 p13+W256*c13=V4 p01 p02 p03 c03+X1*Y)
  (r2:V4 p20 p21 p22 p23+W256*c23=V4 p11 p12 p13 c13+X2*Y) (r3:V4 p30 p31 p32 p33+W256*c33=V4 p21 p22 p23 c23+X3*Y) :
  V4 p00 p10 p20 p30+W256*V4 p31 p32 p33 c33=V4 X0 X1 X2 X3*Y:=by
 rw[V4_mul]
 generalize X0*Y=a0 at *
 generalize X1*Y=a1 at *
 generalize X2*Y=a2 at *
 generalize X3*Y=a3 at *
 unfold V4 W256 at *
 omega
theorem low_num {a0 a1 a2 a3 b0 b1 b2 b3 l0 l1 l2 l3 d0 d1 d2 d3:Int} (s0:Prod4 a0 0 b0 38 l0 d0) (s1:Prod4 a1 d0 b1 38 l1 d1) (s2:Prod4 a2 d1 b2 38 l2 d2) (s3:Prod4 a3 d2 b3 38 l3 d3) :
  V4 l0 l1 l2 l3+W256*d3=V4 a0 a1 a2 a3+38*V4 b0 b1 b2 b3:=by
 unfold Prod4 at s0 s1 s2 s3
 unfold V4 W256
 omega
theorem carry_le {L A B d:Int} (hL:0≤L∧L<W256) (hA:0≤A∧A<W256) (hB:0≤B∧B<W256) (e:L+W256*d=A+38*B):0≤d∧d≤38:=by
 unfold W256 at *;omega
theorem times_end {Z L A B d XY k:Int} (e1:A+W256*B=XY) (e2:L+W256*d=A+38*B) (e3:Z=L+W256*d+k*P255):Z=XY+(k-2*B)*P255:=by
 unfold W256 P255 at *;omega
theorem u64_38:U64 38:=by unfold U64;omega
def tF9 (i:Nat):Nat:=[2,2,2,2,2,2,2,1,2,2,2,1,2,2,1,0,2,2,2,2,0,2].getD i 2
def tT9 (i:Nat):Bool:=i != 20
def tF18 (i:Nat):Nat:=[2,2,2,1,2,2,2,2,1,0,2,2,2,2,0,2].getD i 2
def tT18 (i:Nat):Bool:=i != 14
theorem heap_a35 (w:World) (A B C D E:Obj):(((((w.alloc A).alloc B).alloc C).alloc D).alloc E).heap[w.heap.size+1+1]?=some C:=by
 rw[Below.heap_alloc _ _ _ (by simp<;>omega),Below.heap_alloc _ _ _ (by simp<;>omega)]
 exact heap_a3 w A B C
theorem times_any (x0 x1 x2 x3 y0 y1 y2 y3:Int) (w:World) (h0:U64 x0) (h1:U64 x1) (h2:U64 x2) (h3:U64 x3) (k0:U64 y0) (k1:U64 y1) (k2:U64 y2) (k3:U64 y3) :
  Calls Tryz.prog 136 #[.agg #[.int .u64 x0,.int .u64 x1,.int .u64 x2,.int .u64 x3],.agg #[.int .u64 y0,.int .u64 y1,.int .u64 y2,.int .u64 y3]] w fun e w' =>
   ∃ z0 z1 z2 z3,U64 z0∧U64 z1∧U64 z2∧U64 z3∧(∃ k:Int,V4 z0 z1 z2 z3=V4 x0 x1 x2 x3*V4 y0 y1 y2 y3+k*P255) ∧
    e=.returned (.agg #[.int .u64 z0,.int .u64 z1,.int .u64 z2,.int .u64 z3])∧Below w.heap.size w w':=by
 obtain ⟨p00,c00,s00,r00⟩:=plusProduct_all u64_0 u64_0 h0 k0
 have R00:=Hid.mk r00
 clear r00
 obtain ⟨p01,c01,s01,r01⟩:=plusProduct_all u64_0 s00.hi h0 k1
 have R01:=Hid.mk r01
 clear r01
 obtain ⟨p02,c02,s02,r02⟩:=plusProduct_all u64_0 s01.hi h0 k2
 have R02:=Hid.mk r02
 clear r02
 obtain ⟨p03,c03,s03,r03⟩:=plusProduct_all u64_0 s02.hi h0 k3
 have R03:=Hid.mk r03
 clear r03
 obtain ⟨p10,c10,s10,r10⟩:=plusProduct_all s01.lo u64_0 h1 k0
 have R10:=Hid.mk r10
 clear r10
 obtain ⟨p11,c11,s11,r11⟩:=plusProduct_all s02.lo s10.hi h1 k1
 have R11:=Hid.mk r11
 clear r11
 obtain ⟨p12,c12,s12,r12⟩:=plusProduct_all s03.lo s11.hi h1 k2
 have R12:=Hid.mk r12
 clear r12
 obtain ⟨p13,c13,s13,r13⟩:=plusProduct_all s03.hi s12.hi h1 k3
 have R13:=Hid.mk r13
 clear r13
 obtain ⟨p20,c20,s20,r20⟩:=plusProduct_all s11.lo u64_0 h2 k0
 have R20:=Hid.mk r20
 clear r20
 obtain ⟨p21,c21,s21,r21⟩:=plusProduct_all s12.lo s20.hi h2 k1
 have R21:=Hid.mk r21
 clear r21
 obtain ⟨p22,c22,s22,r22⟩:=plusProduct_all s13.lo s21.hi h2 k2
 have R22:=Hid.mk r22
 clear r22
 obtain ⟨p23,c23,s23,r23⟩:=plusProduct_all s13.hi s22.hi h2 k3
 have R23:=Hid.mk r23
 clear r23
 obtain ⟨p30,c30,s30,r30⟩:=plusProduct_all s21.lo u64_0 h3 k0
 have R30:=Hid.mk r30
 clear r30
 obtain ⟨p31,c31,s31,r31⟩:=plusProduct_all s22.lo s30.hi h3 k1
 have R31:=Hid.mk r31
 clear r31
 obtain ⟨p32,c32,s32,r32⟩:=plusProduct_all s23.lo s31.hi h3 k2
 have R32:=Hid.mk r32
 clear r32
 obtain ⟨p33,c33,s33,r33⟩:=plusProduct_all s23.hi s32.hi h3 k3
 have R33:=Hid.mk r33
 clear r33
 obtain ⟨l0,d0,t0,q0⟩:=plusProduct_all s00.lo u64_0 s31.lo u64_38
 have T0:=Hid.mk q0
 clear q0
 obtain ⟨l1,d1,t1,q1⟩:=plusProduct_all s10.lo t0.hi s32.lo u64_38
 have T1:=Hid.mk q1
 clear q1
 obtain ⟨l2,d2,t2,q2⟩:=plusProduct_all s20.lo t1.hi s33.lo u64_38
 have T2:=Hid.mk q2
 clear q2
 obtain ⟨l3,d3,t3,q3⟩:=plusProduct_all s30.lo t2.hi s33.hi u64_38
 have T3:=Hid.mk q3
 clear q3
 have e1:=times_num (row_num s00 s01 s02 s03) (row_num s10 s11 s12 s13) (row_num s20 s21 s22 s23) (row_num s30 s31 s32 s33)
 have e2:=low_num t0 t1 t2 t3
 have hc:=carry_le (V4_range t0.lo t1.lo t2.lo t3.lo) (V4_range s00.lo s10.lo s20.lo s30.lo) (V4_range s31.lo s32.lo s33.lo s33.hi) e2
 have hc0:=hc.1
 have hc1:=hc.2
 have E1:=Hid.mk e1
 have E2:=Hid.mk e2
 clear e1 e2 hc
 go_enter Tryz.func136,Tryz.ntmps136
 go_wp2
 refine wp_loop_rounds 5 ?_
 rw[rounds_succ]
 go_wp2
 refine wp_loop_rounds 5 ?_
 rw[rounds_succ]
 go_wp2
 refine wp_region_mixS (fun w'=>w'.cell? ⟨w.heap.size+1+1+1,0,none⟩=some (.int .u64 0)∧w'.cell? ⟨w.heap.size,0,none⟩=some (.int .u64 x0)∧w'.cell? ⟨w.heap.size+1,0,none⟩=some (.int .u64 y0))
  tF9 tT9 [0,1,2,3,4,5,6,7,8,9,10,11,12,13,14,15,16,17,18,19,20,21] rfl (by kernel_rfl) (fun _ _ d _ _ h=>by cases d<;>exact h) (by refine ⟨?_,?_,?_⟩<;>go_simp) (fun HS=>?_)
 iterate 15
  first
   | (apply mix_pure rfl rfl rfl;focus (intro wq;go_simp;first | done | with_reducible rfl))
   | (apply mix_look rfl rfl rfl HS;focus (intro wq hq;go_simp;first | done | with_reducible rfl))
  simp only[Act.put,List.setIfInBounds_toArray,List.set_cons_zero,List.set_cons_succ]
 refine mix_act rfl rfl rfl ?_
 intro K hK
 go_simp
 refine (R00.out _).mono ?_
 rintro e w' ⟨rfl,rfl⟩
 refine hK _ _ (fun _ h=>h) ?_
 clear hK K HS
 iterate 4
  apply mix_pure rfl rfl rfl
  focus (intro wq;go_simp;first | done | with_reducible rfl)
  simp only[Act.put,List.setIfInBounds_toArray,List.set_cons_zero,List.set_cons_succ]
 refine mix_act rfl rfl rfl ?_
 intro K hK
 go_simp
 refine hK _ _ (fun h=>by cases h) ?_
 clear hK K
 apply mix_pure rfl rfl rfl
 focus (intro wq;go_simp;first | done | with_reducible rfl)
 simp only[Act.put,List.setIfInBounds_toArray,List.set_cons_zero,List.set_cons_succ]
 refine mix_done ?_
 go_wp2
 rw[rounds_succ]
 go_wp2
 refine wp_region_mixS (fun w'=>w'.cell? ⟨w.heap.size+1+1+1,1,none⟩=some (.int .u64 0)∧w'.cell? ⟨w.heap.size,0,none⟩=some (.int .u64 x0)∧w'.cell? ⟨w.heap.size+1,1,none⟩=some (.int .u64 y1))
  tF9 tT9 [0,1,2,3,4,5,6,7,8,9,10,11,12,13,14,15,16,17,18,19,20,21] rfl (by kernel_rfl) (fun _ _ d _ _ h=>by cases d<;>exact h) (by refine ⟨?_,?_,?_⟩<;>go_simp) (fun HS=>?_)
 iterate 15
  first
   | (apply mix_pure rfl rfl rfl;focus (intro wq;go_simp;first | done | with_reducible rfl))
   | (apply mix_look rfl rfl rfl HS;focus (intro wq hq;go_simp;first | done | with_reducible rfl))
  simp only[Act.put,List.setIfInBounds_toArray,List.set_cons_zero,List.set_cons_succ]
 refine mix_act rfl rfl rfl ?_
 intro K hK
 go_simp
 refine (R01.out _).mono ?_
 rintro e w' ⟨rfl,rfl⟩
 refine hK _ _ (fun _ h=>h) ?_
 clear hK K HS
 iterate 4
  apply mix_pure rfl rfl rfl
  focus (intro wq;go_simp;first | done | with_reducible rfl)
  simp only[Act.put,List.setIfInBounds_toArray,List.set_cons_zero,List.set_cons_succ]
 refine mix_act rfl rfl rfl ?_
 intro K hK
 go_simp
 refine hK _ _ (fun h=>by cases h) ?_
 clear hK K
 apply mix_pure rfl rfl rfl
 focus (intro wq;go_simp;first | done | with_reducible rfl)
 simp only[Act.put,List.setIfInBounds_toArray,List.set_cons_zero,List.set_cons_succ]
 refine mix_done ?_
 go_wp2
 rw[rounds_succ]
 go_wp2
 refine wp_region_mixS (fun w'=>w'.cell? ⟨w.heap.size+1+1+1,2,none⟩=some (.int .u64 0)∧w'.cell? ⟨w.heap.size,0,none⟩=some (.int .u64 x0)∧w'.cell? ⟨w.heap.size+1,2,none⟩=some (.int .u64 y2))
  tF9 tT9 [0,1,2,3,4,5,6,7,8,9,10,11,12,13,14,15,16,17,18,19,20,21] rfl (by kernel_rfl) (fun _ _ d _ _ h=>by cases d<;>exact h) (by refine ⟨?_,?_,?_⟩<;>go_simp) (fun HS=>?_)
 iterate 15
  first
   | (apply mix_pure rfl rfl rfl;focus (intro wq;go_simp;first | done | with_reducible rfl))
   | (apply mix_look rfl rfl rfl HS;focus (intro wq hq;go_simp;first | done | with_reducible rfl))
  simp only[Act.put,List.setIfInBounds_toArray,List.set_cons_zero,List.set_cons_succ]
 refine mix_act rfl rfl rfl ?_
 intro K hK
 go_simp
 refine (R02.out _).mono ?_
 rintro e w' ⟨rfl,rfl⟩
 refine hK _ _ (fun _ h=>h) ?_
 clear hK K HS
 iterate 4
  apply mix_pure rfl rfl rfl
  focus (intro wq;go_simp;first | done | with_reducible rfl)
  simp only[Act.put,List.setIfInBounds_toArray,List.set_cons_zero,List.set_cons_succ]
 refine mix_act rfl rfl rfl ?_
 intro K hK
 go_simp
 refine hK _ _ (fun h=>by cases h) ?_
 clear hK K
 apply mix_pure rfl rfl rfl
 focus (intro wq;go_simp;first | done | with_reducible rfl)
 simp only[Act.put,List.setIfInBounds_toArray,List.set_cons_zero,List.set_cons_succ]
 refine mix_done ?_
 go_wp2
 rw[rounds_succ]
 go_wp2
 refine wp_region_mixS (fun w'=>w'.cell? ⟨w.heap.size+1+1+1,3,none⟩=some (.int .u64 0)∧w'.cell? ⟨w.heap.size,0,none⟩=some (.int .u64 x0)∧w'.cell? ⟨w.heap.size+1,3,none⟩=some (.int .u64 y3))
  tF9 tT9 [0,1,2,3,4,5,6,7,8,9,10,11,12,13,14,15,16,17,18,19,20,21] rfl (by kernel_rfl) (fun _ _ d _ _ h=>by cases d<;>exact h) (by refine ⟨?_,?_,?_⟩<;>go_simp) (fun HS=>?_)
 iterate 15
  first
   | (apply mix_pure rfl rfl rfl;focus (intro wq;go_simp;first | done | with_reducible rfl))
   | (apply mix_look rfl rfl rfl HS;focus (intro wq hq;go_simp;first | done | with_reducible rfl))
  simp only[Act.put,List.setIfInBounds_toArray,List.set_cons_zero,List.set_cons_succ]
 refine mix_act rfl rfl rfl ?_
 intro K hK
 go_simp
 refine (R03.out _).mono ?_
 rintro e w' ⟨rfl,rfl⟩
 refine hK _ _ (fun _ h=>h) ?_
 clear hK K HS
 iterate 4
  apply mix_pure rfl rfl rfl
  focus (intro wq;go_simp;first | done | with_reducible rfl)
  simp only[Act.put,List.setIfInBounds_toArray,List.set_cons_zero,List.set_cons_succ]
 refine mix_act rfl rfl rfl ?_
 intro K hK
 go_simp
 refine hK _ _ (fun h=>by cases h) ?_
 clear hK K
 apply mix_pure rfl rfl rfl
 focus (intro wq;go_simp;first | done | with_reducible rfl)
 simp only[Act.put,List.setIfInBounds_toArray,List.set_cons_zero,List.set_cons_succ]
 refine mix_done ?_
 go_wp2
 rw[rounds_succ]
 go_wp2
 rw[rounds_succ]
 go_wp2
 refine wp_loop_rounds 5 ?_
 rw[rounds_succ]
 go_wp2
 refine wp_region_mixS (fun w'=>w'.cell? ⟨w.heap.size+1+1+1,1,none⟩=some (.int .u64 p01)∧w'.cell? ⟨w.heap.size,1,none⟩=some (.int .u64 x1)∧w'.cell? ⟨w.heap.size+1,0,none⟩=some (.int .u64 y0))
  tF9 tT9 [0,1,2,3,4,5,6,7,8,9,10,11,12,13,14,15,16,17,18,19,20,21] rfl (by kernel_rfl) (fun _ _ d _ _ h=>by cases d<;>exact h) (by refine ⟨?_,?_,?_⟩<;>go_simp) (fun HS=>?_)
 iterate 15
  first
   | (apply mix_pure rfl rfl rfl;focus (intro wq;go_simp;first | done | with_reducible rfl))
   | (apply mix_look rfl rfl rfl HS;focus (intro wq hq;go_simp;first | done | with_reducible rfl))
  simp only[Act.put,List.setIfInBounds_toArray,List.set_cons_zero,List.set_cons_succ]
 refine mix_act rfl rfl rfl ?_
 intro K hK
 go_simp
 refine (R10.out _).mono ?_
 rintro e w' ⟨rfl,rfl⟩
 refine hK _ _ (fun _ h=>h) ?_
 clear hK K HS
 iterate 4
  apply mix_pure rfl rfl rfl
  focus (intro wq;go_simp;first | done | with_reducible rfl)
  simp only[Act.put,List.setIfInBounds_toArray,List.set_cons_zero,List.set_cons_succ]
 refine mix_act rfl rfl rfl ?_
 intro K hK
 go_simp
 refine hK _ _ (fun h=>by cases h) ?_
 clear hK K
 apply mix_pure rfl rfl rfl
 focus (intro wq;go_simp;first | done | with_reducible rfl)
 simp only[Act.put,List.setIfInBounds_toArray,List.set_cons_zero,List.set_cons_succ]
 refine mix_done ?_
 go_wp2
 rw[rounds_succ]
 go_wp2
 refine wp_region_mixS (fun w'=>w'.cell? ⟨w.heap.size+1+1+1,2,none⟩=some (.int .u64 p02)∧w'.cell? ⟨w.heap.size,1,none⟩=some (.int .u64 x1)∧w'.cell? ⟨w.heap.size+1,1,none⟩=some (.int .u64 y1))
  tF9 tT9 [0,1,2,3,4,5,6,7,8,9,10,11,12,13,14,15,16,17,18,19,20,21] rfl (by kernel_rfl) (fun _ _ d _ _ h=>by cases d<;>exact h) (by refine ⟨?_,?_,?_⟩<;>go_simp) (fun HS=>?_)
 iterate 15
  first
   | (apply mix_pure rfl rfl rfl;focus (intro wq;go_simp;first | done | with_reducible rfl))
   | (apply mix_look rfl rfl rfl HS;focus (intro wq hq;go_simp;first | done | with_reducible rfl))
  simp only[Act.put,List.setIfInBounds_toArray,List.set_cons_zero,List.set_cons_succ]
 refine mix_act rfl rfl rfl ?_
 intro K hK
 go_simp
 refine (R11.out _).mono ?_
 rintro e w' ⟨rfl,rfl⟩
 refine hK _ _ (fun _ h=>h) ?_
 clear hK K HS
 iterate 4
  apply mix_pure rfl rfl rfl
  focus (intro wq;go_simp;first | done | with_reducible rfl)
  simp only[Act.put,List.setIfInBounds_toArray,List.set_cons_zero,List.set_cons_succ]
 refine mix_act rfl rfl rfl ?_
 intro K hK
 go_simp
 refine hK _ _ (fun h=>by cases h) ?_
 clear hK K
 apply mix_pure rfl rfl rfl
 focus (intro wq;go_simp;first | done | with_reducible rfl)
 simp only[Act.put,List.setIfInBounds_toArray,List.set_cons_zero,List.set_cons_succ]
 refine mix_done ?_
 go_wp2
 rw[rounds_succ]
 go_wp2
 refine wp_region_mixS (fun w'=>w'.cell? ⟨w.heap.size+1+1+1,3,none⟩=some (.int .u64 p03)∧w'.cell? ⟨w.heap.size,1,none⟩=some (.int .u64 x1)∧w'.cell? ⟨w.heap.size+1,2,none⟩=some (.int .u64 y2))
  tF9 tT9 [0,1,2,3,4,5,6,7,8,9,10,11,12,13,14,15,16,17,18,19,20,21] rfl (by kernel_rfl) (fun _ _ d _ _ h=>by cases d<;>exact h) (by refine ⟨?_,?_,?_⟩<;>go_simp) (fun HS=>?_)
 iterate 15
  first
   | (apply mix_pure rfl rfl rfl;focus (intro wq;go_simp;first | done | with_reducible rfl))
   | (apply mix_look rfl rfl rfl HS;focus (intro wq hq;go_simp;first | done | with_reducible rfl))
  simp only[Act.put,List.setIfInBounds_toArray,List.set_cons_zero,List.set_cons_succ]
 refine mix_act rfl rfl rfl ?_
 intro K hK
 go_simp
 refine (R12.out _).mono ?_
 rintro e w' ⟨rfl,rfl⟩
 refine hK _ _ (fun _ h=>h) ?_
 clear hK K HS
 iterate 4
  apply mix_pure rfl rfl rfl
  focus (intro wq;go_simp;first | done | with_reducible rfl)
  simp only[Act.put,List.setIfInBounds_toArray,List.set_cons_zero,List.set_cons_succ]
 refine mix_act rfl rfl rfl ?_
 intro K hK
 go_simp
 refine hK _ _ (fun h=>by cases h) ?_
 clear hK K
 apply mix_pure rfl rfl rfl
 focus (intro wq;go_simp;first | done | with_reducible rfl)
 simp only[Act.put,List.setIfInBounds_toArray,List.set_cons_zero,List.set_cons_succ]
 refine mix_done ?_
 go_wp2
 rw[rounds_succ]
 go_wp2
 refine wp_region_mixS (fun w'=>w'.cell? ⟨w.heap.size+1+1+1,4,none⟩=some (.int .u64 c03)∧w'.cell? ⟨w.heap.size,1,none⟩=some (.int .u64 x1)∧w'.cell? ⟨w.heap.size+1,3,none⟩=some (.int .u64 y3))
  tF9 tT9 [0,1,2,3,4,5,6,7,8,9,10,11,12,13,14,15,16,17,18,19,20,21] rfl (by kernel_rfl) (fun _ _ d _ _ h=>by cases d<;>exact h) (by refine ⟨?_,?_,?_⟩<;>go_simp) (fun HS=>?_)
 iterate 15
  first
   | (apply mix_pure rfl rfl rfl;focus (intro wq;go_simp;first | done | with_reducible rfl))
   | (apply mix_look rfl rfl rfl HS;focus (intro wq hq;go_simp;first | done | with_reducible rfl))
  simp only[Act.put,List.setIfInBounds_toArray,List.set_cons_zero,List.set_cons_succ]
 refine mix_act rfl rfl rfl ?_
 intro K hK
 go_simp
 refine (R13.out _).mono ?_
 rintro e w' ⟨rfl,rfl⟩
 refine hK _ _ (fun _ h=>h) ?_
 clear hK K HS
 iterate 4
  apply mix_pure rfl rfl rfl
  focus (intro wq;go_simp;first | done | with_reducible rfl)
  simp only[Act.put,List.setIfInBounds_toArray,List.set_cons_zero,List.set_cons_succ]
 refine mix_act rfl rfl rfl ?_
 intro K hK
 go_simp
 refine hK _ _ (fun h=>by cases h) ?_
 clear hK K
 apply mix_pure rfl rfl rfl
 focus (intro wq;go_simp;first | done | with_reducible rfl)
 simp only[Act.put,List.setIfInBounds_toArray,List.set_cons_zero,List.set_cons_succ]
 refine mix_done ?_
 go_wp2
 rw[rounds_succ]
 go_wp2
 rw[rounds_succ]
 go_wp2
 refine wp_loop_rounds 5 ?_
 rw[rounds_succ]
 go_wp2
 refine wp_region_mixS (fun w'=>w'.cell? ⟨w.heap.size+1+1+1,2,none⟩=some (.int .u64 p11)∧w'.cell? ⟨w.heap.size,2,none⟩=some (.int .u64 x2)∧w'.cell? ⟨w.heap.size+1,0,none⟩=some (.int .u64 y0))
  tF9 tT9 [0,1,2,3,4,5,6,7,8,9,10,11,12,13,14,15,16,17,18,19,20,21] rfl (by kernel_rfl) (fun _ _ d _ _ h=>by cases d<;>exact h) (by refine ⟨?_,?_,?_⟩<;>go_simp) (fun HS=>?_)
 iterate 15
  first
   | (apply mix_pure rfl rfl rfl;focus (intro wq;go_simp;first | done | with_reducible rfl))
   | (apply mix_look rfl rfl rfl HS;focus (intro wq hq;go_simp;first | done | with_reducible rfl))
  simp only[Act.put,List.setIfInBounds_toArray,List.set_cons_zero,List.set_cons_succ]
 refine mix_act rfl rfl rfl ?_
 intro K hK
 go_simp
 refine (R20.out _).mono ?_
 rintro e w' ⟨rfl,rfl⟩
 refine hK _ _ (fun _ h=>h) ?_
 clear hK K HS
 iterate 4
  apply mix_pure rfl rfl rfl
  focus (intro wq;go_simp;first | done | with_reducible rfl)
  simp only[Act.put,List.setIfInBounds_toArray,List.set_cons_zero,List.set_cons_succ]
 refine mix_act rfl rfl rfl ?_
 intro K hK
 go_simp
 refine hK _ _ (fun h=>by cases h) ?_
 clear hK K
 apply mix_pure rfl rfl rfl
 focus (intro wq;go_simp;first | done | with_reducible rfl)
 simp only[Act.put,List.setIfInBounds_toArray,List.set_cons_zero,List.set_cons_succ]
 refine mix_done ?_
 go_wp2
 rw[rounds_succ]
 go_wp2
 refine wp_region_mixS (fun w'=>w'.cell? ⟨w.heap.size+1+1+1,3,none⟩=some (.int .u64 p12)∧w'.cell? ⟨w.heap.size,2,none⟩=some (.int .u64 x2)∧w'.cell? ⟨w.heap.size+1,1,none⟩=some (.int .u64 y1))
  tF9 tT9 [0,1,2,3,4,5,6,7,8,9,10,11,12,13,14,15,16,17,18,19,20,21] rfl (by kernel_rfl) (fun _ _ d _ _ h=>by cases d<;>exact h) (by refine ⟨?_,?_,?_⟩<;>go_simp) (fun HS=>?_)
 iterate 15
  first
   | (apply mix_pure rfl rfl rfl;focus (intro wq;go_simp;first | done | with_reducible rfl))
   | (apply mix_look rfl rfl rfl HS;focus (intro wq hq;go_simp;first | done | with_reducible rfl))
  simp only[Act.put,List.setIfInBounds_toArray,List.set_cons_zero,List.set_cons_succ]
 refine mix_act rfl rfl rfl ?_
 intro K hK
 go_simp
 refine (R21.out _).mono ?_
 rintro e w' ⟨rfl,rfl⟩
 refine hK _ _ (fun _ h=>h) ?_
 clear hK K HS
 iterate 4
  apply mix_pure rfl rfl rfl
  focus (intro wq;go_simp;first | done | with_reducible rfl)
  simp only[Act.put,List.setIfInBounds_toArray,List.set_cons_zero,List.set_cons_succ]
 refine mix_act rfl rfl rfl ?_
 intro K hK
 go_simp
 refine hK _ _ (fun h=>by cases h) ?_
 clear hK K
 apply mix_pure rfl rfl rfl
 focus (intro wq;go_simp;first | done | with_reducible rfl)
 simp only[Act.put,List.setIfInBounds_toArray,List.set_cons_zero,List.set_cons_succ]
 refine mix_done ?_
 go_wp2
 rw[rounds_succ]
 go_wp2
 refine wp_region_mixS (fun w'=>w'.cell? ⟨w.heap.size+1+1+1,4,none⟩=some (.int .u64 p13)∧w'.cell? ⟨w.heap.size,2,none⟩=some (.int .u64 x2)∧w'.cell? ⟨w.heap.size+1,2,none⟩=some (.int .u64 y2))
  tF9 tT9 [0,1,2,3,4,5,6,7,8,9,10,11,12,13,14,15,16,17,18,19,20,21] rfl (by kernel_rfl) (fun _ _ d _ _ h=>by cases d<;>exact h) (by refine ⟨?_,?_,?_⟩<;>go_simp) (fun HS=>?_)
 iterate 15
  first
   | (apply mix_pure rfl rfl rfl;focus (intro wq;go_simp;first | done | with_reducible rfl))
   | (apply mix_look rfl rfl rfl HS;focus (intro wq hq;go_simp;first | done | with_reducible rfl))
  simp only[Act.put,List.setIfInBounds_toArray,List.set_cons_zero,List.set_cons_succ]
 refine mix_act rfl rfl rfl ?_
 intro K hK
 go_simp
 refine (R22.out _).mono ?_
 rintro e w' ⟨rfl,rfl⟩
 refine hK _ _ (fun _ h=>h) ?_
 clear hK K HS
 iterate 4
  apply mix_pure rfl rfl rfl
  focus (intro wq;go_simp;first | done | with_reducible rfl)
  simp only[Act.put,List.setIfInBounds_toArray,List.set_cons_zero,List.set_cons_succ]
 refine mix_act rfl rfl rfl ?_
 intro K hK
 go_simp
 refine hK _ _ (fun h=>by cases h) ?_
 clear hK K
 apply mix_pure rfl rfl rfl
 focus (intro wq;go_simp;first | done | with_reducible rfl)
 simp only[Act.put,List.setIfInBounds_toArray,List.set_cons_zero,List.set_cons_succ]
 refine mix_done ?_
 go_wp2
 rw[rounds_succ]
 go_wp2
 refine wp_region_mixS (fun w'=>w'.cell? ⟨w.heap.size+1+1+1,5,none⟩=some (.int .u64 c13)∧w'.cell? ⟨w.heap.size,2,none⟩=some (.int .u64 x2)∧w'.cell? ⟨w.heap.size+1,3,none⟩=some (.int .u64 y3))
  tF9 tT9 [0,1,2,3,4,5,6,7,8,9,10,11,12,13,14,15,16,17,18,19,20,21] rfl (by kernel_rfl) (fun _ _ d _ _ h=>by cases d<;>exact h) (by refine ⟨?_,?_,?_⟩<;>go_simp) (fun HS=>?_)
 iterate 15
  first
   | (apply mix_pure rfl rfl rfl;focus (intro wq;go_simp;first | done | with_reducible rfl))
   | (apply mix_look rfl rfl rfl HS;focus (intro wq hq;go_simp;first | done | with_reducible rfl))
  simp only[Act.put,List.setIfInBounds_toArray,List.set_cons_zero,List.set_cons_succ]
 refine mix_act rfl rfl rfl ?_
 intro K hK
 go_simp
 refine (R23.out _).mono ?_
 rintro e w' ⟨rfl,rfl⟩
 refine hK _ _ (fun _ h=>h) ?_
 clear hK K HS
 iterate 4
  apply mix_pure rfl rfl rfl
  focus (intro wq;go_simp;first | done | with_reducible rfl)
  simp only[Act.put,List.setIfInBounds_toArray,List.set_cons_zero,List.set_cons_succ]
 refine mix_act rfl rfl rfl ?_
 intro K hK
 go_simp
 refine hK _ _ (fun h=>by cases h) ?_
 clear hK K
 apply mix_pure rfl rfl rfl
 focus (intro wq;go_simp;first | done | with_reducible rfl)
 simp only[Act.put,List.setIfInBounds_toArray,List.set_cons_zero,List.set_cons_succ]
 refine mix_done ?_
 go_wp2
 rw[rounds_succ]
 go_wp2
 rw[rounds_succ]
 go_wp2
 refine wp_loop_rounds 5 ?_
 rw[rounds_succ]
 go_wp2
 refine wp_region_mixS (fun w'=>w'.cell? ⟨w.heap.size+1+1+1,3,none⟩=some (.int .u64 p21)∧w'.cell? ⟨w.heap.size,3,none⟩=some (.int .u64 x3)∧w'.cell? ⟨w.heap.size+1,0,none⟩=some (.int .u64 y0))
  tF9 tT9 [0,1,2,3,4,5,6,7,8,9,10,11,12,13,14,15,16,17,18,19,20,21] rfl (by kernel_rfl) (fun _ _ d _ _ h=>by cases d<;>exact h) (by refine ⟨?_,?_,?_⟩<;>go_simp) (fun HS=>?_)
 iterate 15
  first
   | (apply mix_pure rfl rfl rfl;focus (intro wq;go_simp;first | done | with_reducible rfl))
   | (apply mix_look rfl rfl rfl HS;focus (intro wq hq;go_simp;first | done | with_reducible rfl))
  simp only[Act.put,List.setIfInBounds_toArray,List.set_cons_zero,List.set_cons_succ]
 refine mix_act rfl rfl rfl ?_
 intro K hK
 go_simp
 refine (R30.out _).mono ?_
 rintro e w' ⟨rfl,rfl⟩
 refine hK _ _ (fun _ h=>h) ?_
 clear hK K HS
 iterate 4
  apply mix_pure rfl rfl rfl
  focus (intro wq;go_simp;first | done | with_reducible rfl)
  simp only[Act.put,List.setIfInBounds_toArray,List.set_cons_zero,List.set_cons_succ]
 refine mix_act rfl rfl rfl ?_
 intro K hK
 go_simp
 refine hK _ _ (fun h=>by cases h) ?_
 clear hK K
 apply mix_pure rfl rfl rfl
 focus (intro wq;go_simp;first | done | with_reducible rfl)
 simp only[Act.put,List.setIfInBounds_toArray,List.set_cons_zero,List.set_cons_succ]
 refine mix_done ?_
 go_wp2
 rw[rounds_succ]
 go_wp2
 refine wp_region_mixS (fun w'=>w'.cell? ⟨w.heap.size+1+1+1,4,none⟩=some (.int .u64 p22)∧w'.cell? ⟨w.heap.size,3,none⟩=some (.int .u64 x3)∧w'.cell? ⟨w.heap.size+1,1,none⟩=some (.int .u64 y1))
  tF9 tT9 [0,1,2,3,4,5,6,7,8,9,10,11,12,13,14,15,16,17,18,19,20,21] rfl (by kernel_rfl) (fun _ _ d _ _ h=>by cases d<;>exact h) (by refine ⟨?_,?_,?_⟩<;>go_simp) (fun HS=>?_)
 iterate 15
  first
   | (apply mix_pure rfl rfl rfl;focus (intro wq;go_simp;first | done | with_reducible rfl))
   | (apply mix_look rfl rfl rfl HS;focus (intro wq hq;go_simp;first | done | with_reducible rfl))
  simp only[Act.put,List.setIfInBounds_toArray,List.set_cons_zero,List.set_cons_succ]
 refine mix_act rfl rfl rfl ?_
 intro K hK
 go_simp
 refine (R31.out _).mono ?_
 rintro e w' ⟨rfl,rfl⟩
 refine hK _ _ (fun _ h=>h) ?_
 clear hK K HS
 iterate 4
  apply mix_pure rfl rfl rfl
  focus (intro wq;go_simp;first | done | with_reducible rfl)
  simp only[Act.put,List.setIfInBounds_toArray,List.set_cons_zero,List.set_cons_succ]
 refine mix_act rfl rfl rfl ?_
 intro K hK
 go_simp
 refine hK _ _ (fun h=>by cases h) ?_
 clear hK K
 apply mix_pure rfl rfl rfl
 focus (intro wq;go_simp;first | done | with_reducible rfl)
 simp only[Act.put,List.setIfInBounds_toArray,List.set_cons_zero,List.set_cons_succ]
 refine mix_done ?_
 go_wp2
 rw[rounds_succ]
 go_wp2
 refine wp_region_mixS (fun w'=>w'.cell? ⟨w.heap.size+1+1+1,5,none⟩=some (.int .u64 p23)∧w'.cell? ⟨w.heap.size,3,none⟩=some (.int .u64 x3)∧w'.cell? ⟨w.heap.size+1,2,none⟩=some (.int .u64 y2))
  tF9 tT9 [0,1,2,3,4,5,6,7,8,9,10,11,12,13,14,15,16,17,18,19,20,21] rfl (by kernel_rfl) (fun _ _ d _ _ h=>by cases d<;>exact h) (by refine ⟨?_,?_,?_⟩<;>go_simp) (fun HS=>?_)
 iterate 15
  first
   | (apply mix_pure rfl rfl rfl;focus (intro wq;go_simp;first | done | with_reducible rfl))
   | (apply mix_look rfl rfl rfl HS;focus (intro wq hq;go_simp;first | done | with_reducible rfl))
  simp only[Act.put,List.setIfInBounds_toArray,List.set_cons_zero,List.set_cons_succ]
 refine mix_act rfl rfl rfl ?_
 intro K hK
 go_simp
 refine (R32.out _).mono ?_
 rintro e w' ⟨rfl,rfl⟩
 refine hK _ _ (fun _ h=>h) ?_
 clear hK K HS
 iterate 4
  apply mix_pure rfl rfl rfl
  focus (intro wq;go_simp;first | done | with_reducible rfl)
  simp only[Act.put,List.setIfInBounds_toArray,List.set_cons_zero,List.set_cons_succ]
 refine mix_act rfl rfl rfl ?_
 intro K hK
 go_simp
 refine hK _ _ (fun h=>by cases h) ?_
 clear hK K
 apply mix_pure rfl rfl rfl
 focus (intro wq;go_simp;first | done | with_reducible rfl)
 simp only[Act.put,List.setIfInBounds_toArray,List.set_cons_zero,List.set_cons_succ]
 refine mix_done ?_
 go_wp2
 rw[rounds_succ]
 go_wp2
 refine wp_region_mixS (fun w'=>w'.cell? ⟨w.heap.size+1+1+1,6,none⟩=some (.int .u64 c23)∧w'.cell? ⟨w.heap.size,3,none⟩=some (.int .u64 x3)∧w'.cell? ⟨w.heap.size+1,3,none⟩=some (.int .u64 y3))
  tF9 tT9 [0,1,2,3,4,5,6,7,8,9,10,11,12,13,14,15,16,17,18,19,20,21] rfl (by kernel_rfl) (fun _ _ d _ _ h=>by cases d<;>exact h) (by refine ⟨?_,?_,?_⟩<;>go_simp) (fun HS=>?_)
 iterate 15
  first
   | (apply mix_pure rfl rfl rfl;focus (intro wq;go_simp;first | done | with_reducible rfl))
   | (apply mix_look rfl rfl rfl HS;focus (intro wq hq;go_simp;first | done | with_reducible rfl))
  simp only[Act.put,List.setIfInBounds_toArray,List.set_cons_zero,List.set_cons_succ]
 refine mix_act rfl rfl rfl ?_
 intro K hK
 go_simp
 refine (R33.out _).mono ?_
 rintro e w' ⟨rfl,rfl⟩
 refine hK _ _ (fun _ h=>h) ?_
 clear hK K HS
 iterate 4
  apply mix_pure rfl rfl rfl
  focus (intro wq;go_simp;first | done | with_reducible rfl)
  simp only[Act.put,List.setIfInBounds_toArray,List.set_cons_zero,List.set_cons_succ]
 refine mix_act rfl rfl rfl ?_
 intro K hK
 go_simp
 refine hK _ _ (fun h=>by cases h) ?_
 clear hK K
 apply mix_pure rfl rfl rfl
 focus (intro wq;go_simp;first | done | with_reducible rfl)
 simp only[Act.put,List.setIfInBounds_toArray,List.set_cons_zero,List.set_cons_succ]
 refine mix_done ?_
 go_wp2
 rw[rounds_succ]
 go_wp2
 rw[rounds_succ]
 go_wp2
 refine wp_loop_rounds 5 ?_
 rw[rounds_succ]
 go_wp2
 refine wp_region_mixS (fun w'=>w'.cell? ⟨w.heap.size+1+1+1,0,none⟩=some (.int .u64 p00)∧w'.cell? ⟨w.heap.size+1+1+1,4,none⟩=some (.int .u64 p31))
  tF18 tT18 [0,1,2,3,4,5,6,7,8,9,10,11,12,13,14,15] rfl (by kernel_rfl) (fun _ _ d _ _ h=>by cases d<;>exact h) (by refine ⟨?_,?_⟩<;>go_simp) (fun HS=>?_)
 iterate 9
  first
   | (apply mix_pure rfl rfl rfl;focus (intro wq;go_simp;first | done | with_reducible rfl))
   | (apply mix_look rfl rfl rfl HS;focus (intro wq hq;go_simp;first | done | with_reducible rfl))
  simp only[Act.put,List.setIfInBounds_toArray,List.set_cons_zero,List.set_cons_succ]
 refine mix_act rfl rfl rfl ?_
 intro K hK
 go_simp
 refine (T0.out _).mono ?_
 rintro e w' ⟨rfl,rfl⟩
 refine hK _ _ (fun _ h=>h) ?_
 clear hK K HS
 iterate 4
  apply mix_pure rfl rfl rfl
  focus (intro wq;go_simp;first | done | with_reducible rfl)
  simp only[Act.put,List.setIfInBounds_toArray,List.set_cons_zero,List.set_cons_succ]
 refine mix_act rfl rfl rfl ?_
 intro K hK
 go_simp
 refine hK _ _ (fun h=>by cases h) ?_
 clear hK K
 apply mix_pure rfl rfl rfl
 focus (intro wq;go_simp;first | done | with_reducible rfl)
 simp only[Act.put,List.setIfInBounds_toArray,List.set_cons_zero,List.set_cons_succ]
 refine mix_done ?_
 go_wp2
 rw[rounds_succ]
 go_wp2
 refine wp_region_mixS (fun w'=>w'.cell? ⟨w.heap.size+1+1+1,1,none⟩=some (.int .u64 p10)∧w'.cell? ⟨w.heap.size+1+1+1,5,none⟩=some (.int .u64 p32))
  tF18 tT18 [0,1,2,3,4,5,6,7,8,9,10,11,12,13,14,15] rfl (by kernel_rfl) (fun _ _ d _ _ h=>by cases d<;>exact h) (by refine ⟨?_,?_⟩<;>go_simp) (fun HS=>?_)
 iterate 9
  first
   | (apply mix_pure rfl rfl rfl;focus (intro wq;go_simp;first | done | with_reducible rfl))
   | (apply mix_look rfl rfl rfl HS;focus (intro wq hq;go_simp;first | done | with_reducible rfl))
  simp only[Act.put,List.setIfInBounds_toArray,List.set_cons_zero,List.set_cons_succ]
 refine mix_act rfl rfl rfl ?_
 intro K hK
 go_simp
 refine (T1.out _).mono ?_
 rintro e w' ⟨rfl,rfl⟩
 refine hK _ _ (fun _ h=>h) ?_
 clear hK K HS
 iterate 4
  apply mix_pure rfl rfl rfl
  focus (intro wq;go_simp;first | done | with_reducible rfl)
  simp only[Act.put,List.setIfInBounds_toArray,List.set_cons_zero,List.set_cons_succ]
 refine mix_act rfl rfl rfl ?_
 intro K hK
 go_simp
 refine hK _ _ (fun h=>by cases h) ?_
 clear hK K
 apply mix_pure rfl rfl rfl
 focus (intro wq;go_simp;first | done | with_reducible rfl)
 simp only[Act.put,List.setIfInBounds_toArray,List.set_cons_zero,List.set_cons_succ]
 refine mix_done ?_
 go_wp2
 rw[rounds_succ]
 go_wp2
 refine wp_region_mixS (fun w'=>w'.cell? ⟨w.heap.size+1+1+1,2,none⟩=some (.int .u64 p20)∧w'.cell? ⟨w.heap.size+1+1+1,6,none⟩=some (.int .u64 p33))
  tF18 tT18 [0,1,2,3,4,5,6,7,8,9,10,11,12,13,14,15] rfl (by kernel_rfl) (fun _ _ d _ _ h=>by cases d<;>exact h) (by refine ⟨?_,?_⟩<;>go_simp) (fun HS=>?_)
 iterate 9
  first
   | (apply mix_pure rfl rfl rfl;focus (intro wq;go_simp;first | done | with_reducible rfl))
   | (apply mix_look rfl rfl rfl HS;focus (intro wq hq;go_simp;first | done | with_reducible rfl))
  simp only[Act.put,List.setIfInBounds_toArray,List.set_cons_zero,List.set_cons_succ]
 refine mix_act rfl rfl rfl ?_
 intro K hK
 go_simp
 refine (T2.out _).mono ?_
 rintro e w' ⟨rfl,rfl⟩
 refine hK _ _ (fun _ h=>h) ?_
 clear hK K HS
 iterate 4
  apply mix_pure rfl rfl rfl
  focus (intro wq;go_simp;first | done | with_reducible rfl)
  simp only[Act.put,List.setIfInBounds_toArray,List.set_cons_zero,List.set_cons_succ]
 refine mix_act rfl rfl rfl ?_
 intro K hK
 go_simp
 refine hK _ _ (fun h=>by cases h) ?_
 clear hK K
 apply mix_pure rfl rfl rfl
 focus (intro wq;go_simp;first | done | with_reducible rfl)
 simp only[Act.put,List.setIfInBounds_toArray,List.set_cons_zero,List.set_cons_succ]
 refine mix_done ?_
 go_wp2
 rw[rounds_succ]
 go_wp2
 refine wp_region_mixS (fun w'=>w'.cell? ⟨w.heap.size+1+1+1,3,none⟩=some (.int .u64 p30)∧w'.cell? ⟨w.heap.size+1+1+1,7,none⟩=some (.int .u64 c33))
  tF18 tT18 [0,1,2,3,4,5,6,7,8,9,10,11,12,13,14,15] rfl (by kernel_rfl) (fun _ _ d _ _ h=>by cases d<;>exact h) (by refine ⟨?_,?_⟩<;>go_simp) (fun HS=>?_)
 iterate 9
  first
   | (apply mix_pure rfl rfl rfl;focus (intro wq;go_simp;first | done | with_reducible rfl))
   | (apply mix_look rfl rfl rfl HS;focus (intro wq hq;go_simp;first | done | with_reducible rfl))
  simp only[Act.put,List.setIfInBounds_toArray,List.set_cons_zero,List.set_cons_succ]
 refine mix_act rfl rfl rfl ?_
 intro K hK
 go_simp
 refine (T3.out _).mono ?_
 rintro e w' ⟨rfl,rfl⟩
 refine hK _ _ (fun _ h=>h) ?_
 clear hK K HS
 iterate 4
  apply mix_pure rfl rfl rfl
  focus (intro wq;go_simp;first | done | with_reducible rfl)
  simp only[Act.put,List.setIfInBounds_toArray,List.set_cons_zero,List.set_cons_succ]
 refine mix_act rfl rfl rfl ?_
 intro K hK
 go_simp
 refine hK _ _ (fun h=>by cases h) ?_
 clear hK K
 apply mix_pure rfl rfl rfl
 focus (intro wq;go_simp;first | done | with_reducible rfl)
 simp only[Act.put,List.setIfInBounds_toArray,List.set_cons_zero,List.set_cons_succ]
 refine mix_done ?_
 go_wp2
 rw[rounds_succ]
 go_wp2_with fail
 refine (fold_any _ _ _ _ _ _ t0.lo t1.lo t2.lo t3.lo hc0 hc1).mono ?_
 rintro e w1 ⟨q0,q1,q2,q3,hq0,hq1,hq2,hq3,⟨k,ek⟩,rfl,hb1⟩
 have g4:=bheap hb1 (heap_a35 w _ _ _ _ _) (by simp<;>omega)
 have hB1:Hid (Below w.heap.size w w1):=by
  refine Below.trans ?_ (hb1.mono (by simp<;>omega))
  repeat first | exact Below.refl _ _ | refine Below.alloc ?_ (by simp<;>omega) _ | refine Below.drew ?_ | refine Below.drewN' ?_ _
 clear hb1
 have EK:=Hid.mk (times_end E1.out E2.out ek)
 clear ek
 go_wp2_with (refine st_limbs rfl _ _ rfl _ _ _ _ _ rfl rfl _ _ _ _ g4 ?_;intro w2 g5 o5)
 exact bodyPost_ret (v:=.agg #[.int .u64 q0,.int .u64 q1,.int .u64 q2,.int .u64 q3]) (results_cell_row rfl _ _ _ _ _ _ _ rfl g5 Tryz.underlying142 rfl (by kernel_rfl)) rfl
  ⟨q0,q1,q2,q3,hq0,hq1,hq2,hq3,⟨_,EK.out⟩,rfl,Below.trans hB1.out (Only.below (b:=w.heap.size+1+1) (B:=w.heap.size) o5 (by omega))⟩
def lprod:List Int→Int
 | []=>1
 | x::l=>x*lprod l
theorem lprod_append (l m:List Int):lprod (l++m)=lprod l*lprod m:=by
 induction l with
 | nil=>simp[lprod]
 | cons x l ih=>simp only[List.cons_append,lprod,ih,Int.mul_assoc]
theorem take_prod (ns:List Int) (k:Nat) (h:k<ns.length):lprod (ns.take (k+1))=lprod (ns.take k)*ns[k]:=by
 rw[List.take_succ_eq_append_getElem h,lprod_append];simp[lprod]
theorem mul_step {ns:List Int} {k:Nat} {Z Q c n:Int} (hz:∃ c:Int,Z=lprod (ns.take k)+c*P255) (e:Q=Z*n+c*P255) (hs:lprod (ns.take (k+1))=lprod (ns.take k)*n) :
  ∃ c:Int,Q=lprod (ns.take (k+1))+c*P255:=by
 obtain ⟨d,rfl⟩:=hz
 exact ⟨d*n+c,by rw[e,hs,Int.add_mul,Int.add_mul,Int.mul_assoc,Int.mul_comm P255 n,← Int.mul_assoc];omega⟩
theorem mul_last {ns:List Int} {Z:Int} (hz:∃ c:Int,Z=lprod (ns.take ns.length)+c*P255):Z%P255=lprod ns%P255:=by
 obtain ⟨d,rfl⟩:=hz
 rw[List.take_length,Int.mul_comm,Int.add_mul_emod_self_left]
theorem mul_walk (b off cap:Nat) (ns:List Int) (w:World) (hr:∀ n∈ns,0≤n∧n<W256) (hrows:RowsAt w b off ns) (hb:b<w.heap.size) (hlen:ns.length≤4611686018427387904) (hcap:ns.length≤cap) (h1:1≤ns.length) :
  Calls Tryz.prog 103 #[.slice (some ⟨b,off,none⟩) ns.length cap] w fun e w'=>e=.returned (.agg (BA (lprod ns%P255)))∧Below w.heap.size w w':=by
 have hz:((ns.length:Int)==0)=false:=by simp;intro h;simp[h] at h1
 have hn0:=hr _ (List.getElem_mem (show 0<ns.length by omega))
 have r0:=hrows 0 (by omega)
 have hgd:ns.getD 0 0=ns[0]:=by simp[show 0<ns.length by omega]
 rw[hgd] at r0
 have E0:=Hid.mk (take_prod ns 0 (by omega))
 have HR:=Hid.mk hr
 have HW:=Hid.mk hrows
 clear hr hrows hgd
 simp only[Nat.zero_mul,Nat.add_zero] at r0
 generalize ns[0]=n0 at *
 have R0:Hid (∀ v,Below w.heap.size w v→v.rangeAt b off (BA n0).toList):=fun v hB j x hx=>(hB.cell hb).trans (r0 j x hx)
 clear r0
 rcases Nat.eq_or_lt_of_le (show 1≤cap by omega) with hc | hc
 ·subst hc
  go_enter Tryz.func103,Tryz.ntmps103
  go_wp2_with (refine ld_mid rfl _ rfl _ _ n0 rfl (R0.out _ ((Below.refl _ _).alloc (Nat.le_refl _) _)) ?_)
  refine (load_any n0 _).mono ?_
  rintro e v0 ⟨rfl,hb0⟩
  have gz:=bheap hb0 (heap_alloc_new w _) (by simp<;>omega)
  have hB:=Below.trans ((Below.refl _ w).alloc (Nat.le_refl _) _) (hb0.mono (by simp<;>omega))
  clear hb0
  go_wp2_with (refine st_limbs rfl _ _ rfl _ _ _ _ _ rfl rfl _ _ _ _ (heap_alloc_new v0 _) ?_;intro v1 g1 o1)
  have hsz:w.heap.size<v0.heap.size:=heap_lt gz
  have gz1:=(o1.block _ (by omega)).trans ((Below.heap_alloc v0 _ _ hsz).trans gz)
  have hB1:Below w.heap.size w v1:=Below.trans (hB.alloc (by omega) _) (Only.below (b:=v0.heap.size) (B:=w.heap.size) o1 (by omega))
  clear o1 gz hB
  generalize v0.heap.size=bs at *
  refine wp_loop_rounds 1 ?_
  rw[rounds_succ]
  have e1:ns.length=1:=by omega
  have Z1:Hid (∃ c:Int,V4 (limb n0 0) (limb n0 8) (limb n0 16) (limb n0 24)=lprod (ns.take ns.length)+c*P255):=⟨0,by rw[limb_V4 hn0.1 hn0.2,e1,E0.out];simp[lprod]⟩
  have e2:((ns.length-1:Nat):Int)=0:=by omega
  clear e1
  go_wp2_with (refine ld_limbs rfl _ rfl _ _ _ _ _ rfl g1 ?_)
  refine (store_any _ _ _ _ _ (limb_u64 _ _) (limb_u64 _ _) (limb_u64 _ _) (limb_u64 _ _)).mono ?_
  rintro e v2 ⟨rfl,hb2⟩
  have gz2:=bheap hb2 gz1 (heap_lt gz1)
  have hB2:=Below.trans hB1 (hb2.mono hB1.size)
  clear hb2
  go_wp2_with (refine st_bytes rfl _ _ rfl _ _ rfl rfl _ gz2 rfl ?_;intro v3 g3 o3)
  rw[mul_last Z1.out] at g3
  exact bodyPost_ret (v:=.agg (BA (lprod ns%P255))) (results_cell_row rfl _ _ _ _ _ _ _ rfl g3 Tryz.underlying22 rfl (by rw[BA_size];exact info32)) rfl
   ⟨rfl,Below.trans hB2 (Only.below (b:=w.heap.size) (B:=w.heap.size) o3 (by omega))⟩
 ·have hc':¬ cap=1:=by omega
  go_enter Tryz.func103,Tryz.ntmps103
  go_wp2_with (refine ld_mid rfl _ rfl _ _ n0 rfl (R0.out _ ((Below.refl _ _).alloc (Nat.le_refl _) _)) ?_)
  refine (load_any n0 _).mono ?_
  rintro e v0 ⟨rfl,hb0⟩
  have gz:=bheap hb0 (heap_alloc_new w _) (by simp<;>omega)
  have hB:=Below.trans ((Below.refl _ w).alloc (Nat.le_refl _) _) (hb0.mono (by simp<;>omega))
  clear hb0
  go_wp2_with (refine st_limbs rfl _ _ rfl _ _ _ _ _ rfl rfl _ _ _ _ (heap_alloc_new v0 _) ?_;intro v1 g1 o1)
  have hsz:w.heap.size<v0.heap.size:=heap_lt gz
  have gz1:=(o1.block _ (by omega)).trans ((Below.heap_alloc v0 _ _ hsz).trans gz)
  have hB1:Below w.heap.size w v1:=Below.trans (hB.alloc (by omega) _) (Only.below (b:=v0.heap.size) (B:=w.heap.size) o1 (by omega))
  clear o1 gz hB
  generalize v0.heap.size=bs at *
  go_loopw [17] (fun i v=>∃ k:Nat,k+1≤ns.length∧i=.int .i64 k∧∃ z0 z1 z2 z3,U64 z0∧U64 z1∧U64 z2∧U64 z3∧(∃ c:Int,V4 z0 z1 z2 z3=lprod (ns.take (k+1))+c*P255) ∧
    v.heap[bs]?=some (.cells #[.int .u64 z0,.int .u64 z1,.int .u64 z2,.int .u64 z3] 142 (0,0))∧(∃ z:Array Value,v.heap[w.heap.size]?=some (.cells z 22 (0,0))∧z.size=32)∧Below w.heap.size w v)
   (fun i _=>ns.length-(intOf i).toNat)
  case atStart =>
   exact ⟨0,h1,rfl,_,_,_,_,limb_u64 _ _,limb_u64 _ _,limb_u64 _ _,limb_u64 _ _,⟨0,by rw[limb_V4 hn0.1 hn0.2,E0.out];simp[lprod]⟩,g1,⟨_,gz1,rfl⟩,hB1⟩
  case round =>
   clear g1 gz1 hB1
   obtain ⟨k,hk,rfl,z0,z1,z2,z3,hz0,hz1,hz2,hz3,hzz,gs,⟨z,gz,sz⟩,hB⟩:=hrel
   have HZ:=Hid.mk hzz
   clear hzz
   by_cases hlt:k+1<ns.length
   ·have hn:=HR.out _ (List.getElem_mem hlt)
    have hrow:wr.rangeAt b (off+32+k*32) (BA (ns.getD (k+1) 0)).toList:=fun j v hv=>by
     have h2:=HW.out (k+1) hlt j v hv
     rw[show off+(k+1)*32=off+32+k*32 by omega] at h2
     exact (hB.cell hb).trans h2
    have hgd:ns.getD (k+1) 0=ns[k+1]:=by simp[hlt]
    rw[hgd] at hrow
    have hsn:=Hid.mk (take_prod ns (k+1) hlt)
    clear hgd
    generalize ns[k+1]=n at *
    have HROW:=Hid.mk hrow
    clear hrow
    have hlt2:(k:Int)<((ns.length-1:Nat):Int):=by omega
    have hlt3:k<ns.length-1:=by omega
    go_wp2_with (first|(refine ld_mid rfl _ rfl _ _ n rfl HROW.out ?_)|(refine st_bytes rfl _ _ rfl _ n rfl rfl _ (heap_alloc_new wr _) rfl ?_;intro v1 g1 o1))
    have hsz2:bs<wr.heap.size:=heap_lt gs
    have gs1:=(o1.block _ (by omega)).trans ((Below.heap_alloc wr _ _ hsz2).trans gs)
    have gz1:=(o1.block _ (by omega)).trans ((Below.heap_alloc wr _ _ (by omega)).trans gz)
    have hB1:Below w.heap.size w v1:=Below.trans (hB.alloc (by omega) _) (Only.below (b:=wr.heap.size) (B:=w.heap.size) o1 (by omega))
    clear o1 gs gz hB
    generalize wr.heap.size=bw at *
    refine wp_region_mixS (fun v=>v.heap[bs]?=some (.cells #[.int .u64 z0,.int .u64 z1,.int .u64 z2,.int .u64 z3] 142 (0,0))∧v.heap[bw]?=some (.cells (BA n) 22 (0,0)))
     addF addT [0,1,2,3,4] rfl (by kernel_rfl) (fun _ _ d _ _ h=>by cases d<;>exact h) ⟨gs1,g1⟩ (fun HS=>?_)
    apply mix_look rfl rfl rfl HS
    focus exact fun v h=>look_limbs rfl _ _ _ _ _ rfl h.1
    simp only[Act.put,List.setIfInBounds_toArray,List.set_cons_zero,List.set_cons_succ]
    apply mix_look rfl rfl rfl HS
    focus exact fun v h=>look_bytes rfl _ _ rfl (BA_size _) h.2
    simp only[Act.put,List.setIfInBounds_toArray,List.set_cons_zero,List.set_cons_succ]
    clear HS g1
    refine mix_act rfl rfl rfl ?_
    intro K hK
    go_simp
    refine (load_any n _).mono ?_
    rintro e v2 ⟨rfl,hb2⟩
    have gs2:=bheap hb2 gs1 (heap_lt gs1)
    have gz2:=bheap hb2 gz1 (heap_lt gz1)
    have hB2:=Below.trans (Below.drew hB1) (hb2.mono hB1.size)
    refine hK _ _ (fun _ h=>⟨bheap hb2 h.1 (heap_lt h.1),bheap hb2 h.2 (heap_lt h.2)⟩) ?_
    clear hK K hb2 gs1 gz1 hB1
    refine mix_act rfl rfl rfl ?_
    intro K hK
    go_simp
    refine (times_any _ _ _ _ _ _ _ _ _ hz0 hz1 hz2 hz3 (limb_u64 _ _) (limb_u64 _ _) (limb_u64 _ _) (limb_u64 _ _)).mono ?_
    rintro e v3 ⟨q0,q1,q2,q3,hq0,hq1,hq2,hq3,⟨c,ec⟩,rfl,hb3⟩
    rw[limb_V4 hn.1 hn.2] at ec
    have EC:=Hid.mk ec
    clear ec
    have gs3:=bheap hb3 gs2 (heap_lt gs2)
    have gz3:=bheap hb3 gz2 (heap_lt gz2)
    have hB3:=Below.trans hB2 (hb3.mono hB2.size)
    refine hK _ _ (fun _ h=>⟨bheap hb3 h.1 (heap_lt h.1),bheap hb3 h.2 (heap_lt h.2)⟩) ?_
    clear hK K hb3 gs2 gz2 hB2
    refine mix_act rfl rfl rfl ?_
    intro K hK
    refine act_limbs _ _ rfl _ _ _ _ _ rfl rfl _ _ _ _ gs3 ?_
    intro v4 g4 o4
    refine hK _ _ (fun h=>by cases h) ?_
    clear hK K
    refine mix_done ?_
    have gz4:=(o4.block _ (by omega)).trans gz3
    have hB4:Below w.heap.size w v4:=Below.trans hB3 (Only.below (b:=bs) (B:=w.heap.size) o4 (by omega))
    clear o4 gs3 gz3 hB3
    go_wp2
    go_roundw
    case rel=>exact ⟨k+1,by omega,by go_num,q0,q1,q2,q3,hq0,hq1,hq2,hq3,mul_step HZ.out EC.out hsn.out,g4,⟨z,gz4,sz⟩,hB4⟩
    case measure=>simp[intOf];omega
   ·have hk2:k+1=ns.length:=by omega
    have HZ2:=HZ.out
    rw[hk2] at HZ2
    have HZ3:=Hid.mk HZ2
    have hk3:¬ (k:Int)<((ns.length-1:Nat):Int):=by omega
    clear hk2 HZ2
    go_wp2_with (refine ld_limbs rfl _ rfl _ _ _ _ _ rfl gs ?_)
    refine (store_any _ _ _ _ _ hz0 hz1 hz2 hz3).mono ?_
    rintro e v2 ⟨rfl,hb2⟩
    have gz2:=bheap hb2 gz (heap_lt gz)
    have hB2:=Below.trans hB (hb2.mono hB.size)
    clear hb2
    go_wp2_with (refine st_bytes rfl _ _ rfl _ _ rfl rfl _ gz2 sz ?_;intro v3 g3 o3)
    rw[mul_last HZ3.out] at g3
    exact bodyPost_ret (v:=.agg (BA (lprod ns%P255))) (results_cell_row rfl _ _ _ _ _ _ _ rfl g3 Tryz.underlying22 rfl (by rw[BA_size];exact info32)) rfl
     ⟨rfl,Below.trans hB2 (Only.below (b:=w.heap.size) (B:=w.heap.size) o3 (by omega))⟩
theorem heap_a45 (w:World) (A B:Obj):((w.alloc A).alloc B).heap[w.heap.size]?=some A:=heap_alloc2_old w A B
theorem u64_1:U64 1:=by unfold U64;omega
def topBits (e:Int) (k:Nat):Nat:=e.toNat/2 ^ (256-k)
theorem pow_start {a e:Int} (h1:e<W256):V4 1 0 0 0=a ^ topBits e 0+0*P255:=by
 unfold topBits
 have:e.toNat/2 ^ 256=0:=Nat.div_eq_of_lt (by unfold W256 at h1;omega)
 rw[V4_one,show 256-0=256 from rfl,this]
 simp
theorem and_one_u8 (x:Int) (h0:0≤x) (h1:x<256):bits BinOp.and IntKind.u8 x 1=x%2:=by go_bits2
theorem byt_bit (e:Int) (m:Nat) (he:0≤e):(byt e (m/8)/2 ^ (m%8))%2=((e.toNat/2 ^ m%2:Nat):Int):=by
 obtain ⟨E,rfl⟩:=Int.eq_ofNat_of_zero_le he
 rw[Int.toNat_natCast]
 have e1:E/2 ^ m=E/256 ^ (m/8)/2 ^ (m%8):=by
  rw[Nat.div_div_eq_div_mul]
  congr 1
  rw[show (256:Nat)=2 ^ 8 from rfl,← Nat.pow_mul,← Nat.pow_add]
  congr 1
  omega
 have e2:byt (E:Int) (m/8)=((E/256 ^ (m/8)%256:Nat):Int):=by
  unfold byt
  rw[show ((256:Int) ^ (m/8))=((256 ^ (m/8):Nat):Int) from by rw[Int.natCast_pow];rfl]
  omega
 rw[e1,e2]
 generalize E/256 ^ (m/8)=G
 have hj:m%8<8:=by omega
 generalize m%8=j at *
 have:j=0∨j=1∨j=2∨j=3∨j=4∨j=5∨j=6∨j=7:=by omega
 rcases this with rfl | rfl | rfl | rfl | rfl | rfl | rfl | rfl<;>omega
theorem topBits_succ (e:Int) (k:Nat) (h:k<256) (he:0≤e) :
  topBits e (k+1)=2*topBits e k+(if (bits BinOp.and IntKind.u8 (byt e ((255-k)/8)/2 ^ ((255-k)%8)) 1==1)=true then 1 else 0):=by
 have hb:=byt_byte e ((255-k)/8)
 unfold Byte at hb
 have hp:(0:Int)<2 ^ ((255-k)%8):=Int.pow_pos (by decide)
 have h0:0≤byt e ((255-k)/8)/2 ^ ((255-k)%8):=Int.ediv_nonneg hb.1 (by omega)
 have h1:byt e ((255-k)/8)/2 ^ ((255-k)%8)<256:=by
  have:=Int.ediv_le_self (2 ^ ((255-k)%8)) hb.1
  omega
 rw[and_one_u8 _ h0 h1,byt_bit e (255-k) he]
 unfold topBits
 rw[show 256-(k+1)=255-k by omega,show 256-k=(255-k)+1 by omega,Nat.pow_succ,← Nat.div_div_eq_div_mul]
 generalize e.toNat/2 ^ (255-k)=G
 have hG:G%2=0∨G%2=1:=by omega
 rcases hG with hG | hG<;>simp[hG]<;>omega
theorem pow_sq {A Z Q c:Int} (hz:∃ c:Int,Z=A+c*P255) (e:Q=Z*Z+c*P255):∃ c:Int,Q=A*A+c*P255:=by
 obtain ⟨d,rfl⟩:=hz
 exact ⟨2*A*d+d*d*P255+c,by rw[e];grind⟩
theorem pow_even {a Q:Int} {t:Nat} (h:∃ c:Int,Q=a ^ t*a ^ t+c*P255):∃ c:Int,Q=a ^ (2*t+(if false=true then 1 else 0))+c*P255:=by
 obtain ⟨c,h⟩:=h
 exact ⟨c,by rw[h,← Int.pow_add];simp;rw[Nat.two_mul]⟩
theorem pow_odd {a Q S d:Int} {t:Nat} (h:∃ c:Int,Q=a ^ t*a ^ t+c*P255) (e:S=Q*a+d*P255):∃ c:Int,S=a ^ (2*t+(if true=true then 1 else 0))+c*P255:=by
 obtain ⟨c,rfl⟩:=h
 refine ⟨c*a+d,?_⟩
 rw[e]
 simp only[if_true,Int.pow_succ,Nat.two_mul,Int.pow_add]
 grind
theorem pow_last {a e Z:Int} (hz:∃ c:Int,Z=a ^ topBits e 256+c*P255):Z%P255=a ^ e.toNat%P255:=by
 obtain ⟨d,rfl⟩:=hz
 rw[Int.mul_comm,Int.add_mul_emod_self_left]
 simp[topBits]
theorem pow_any (a e:Int) (w:World) (ha0:0≤a) (ha1:a<W256) (he0:0≤e) (he1:e<W256) :
  Calls Tryz.prog 137 #[.agg (BA a),.agg (BA e)] w fun r w'=>r=.returned (.agg (BA (a ^ e.toNat%P255)))∧Below w.heap.size w w':=by
 go_enter Tryz.func137,Tryz.ntmps137
 go_wp2_with (refine ld_bytes rfl _ rfl _ _ rfl (heap_a31 w _ _ _) (BA_size _) ?_)
 refine (load_any a _).mono ?_
 rintro r v0 ⟨rfl,hb0⟩
 have ge:=bheap hb0 (heap_a32 w _ _ _) (by simp<;>omega)
 have gz:=bheap hb0 (heap_a3 w _ _ _) (by simp<;>omega)
 have hB:Below w.heap.size w v0:=by
  refine Below.trans ?_ (hb0.mono (by simp<;>omega))
  repeat first | exact Below.refl _ _ | refine Below.alloc ?_ (by simp<;>omega) _
 clear hb0
 go_wp2_with (first|(refine st_limbs rfl _ _ rfl _ _ _ _ _ rfl rfl _ _ _ _ (heap_a45 v0 _ _) ?_;intro v1 g1 o1;have g2:=(o1.block _ (by omega)).trans (heap_alloc2_new v0 _ _))|(refine st_limbs rfl _ _ rfl _ _ _ _ _ rfl rfl _ _ _ _ g2 ?_;intro v2 g3 o2))
 have hs0:w.heap.size+1+1<v0.heap.size:=heap_lt gz
 have ge2:=(o2.block _ (by omega)).trans ((o1.block _ (by omega)).trans ((Below.heap_alloc _ _ _ (by simp<;>omega)).trans ((Below.heap_alloc _ _ _ (by omega)).trans ge)))
 have gz2:=(o2.block _ (by omega)).trans ((o1.block _ (by omega)).trans ((Below.heap_alloc _ _ _ (by simp<;>omega)).trans ((Below.heap_alloc _ _ _ (by omega)).trans gz)))
 have gb2:=(o2.block _ (by omega)).trans g1
 have hB2:Below w.heap.size w v2:=Below.trans ((hB.alloc (by omega) _).alloc (by simp<;>omega) _) (Below.trans (Only.below (b:=v0.heap.size) (B:=w.heap.size) o1 (by omega)) (Only.below (b:=v0.heap.size+1) (B:=w.heap.size) o2 (by omega)))
 clear o1 o2 g1 g2 ge gz hB
 generalize v0.heap.size=bs at *
 go_loopw [12] (fun i v=>∃ k:Nat,k≤256∧i=.int .i64 k∧∃ z0 z1 z2 z3,U64 z0∧U64 z1∧U64 z2∧U64 z3∧(∃ c:Int,V4 z0 z1 z2 z3=a ^ topBits e k+c*P255) ∧
   v.heap[bs+1]?=some (.cells #[.int .u64 z0,.int .u64 z1,.int .u64 z2,.int .u64 z3] 142 (0,0)) ∧
   v.heap[bs]?=some (.cells #[.int .u64 (limb a 0),.int .u64 (limb a 8),.int .u64 (limb a 16),.int .u64 (limb a 24)] 142 (0,0)) ∧
   v.heap[w.heap.size+1]?=some (.cells (BA e) 22 (0,0))∧(∃ z:Array Value,v.heap[w.heap.size+1+1]?=some (.cells z 22 (0,0))∧z.size=32)∧Below w.heap.size w v)
  (fun i _=>256-(intOf i).toNat)
 case atStart =>
  exact ⟨0,by omega,rfl,1,0,0,0,u64_1,u64_0,u64_0,u64_0,⟨0,pow_start he1⟩,g3,gb2,ge2,⟨_,gz2,rfl⟩,hB2⟩
 case round =>
  clear g3 gb2 ge2 gz2 hB2
  obtain ⟨k,hk,rfl,z0,z1,z2,z3,hz0,hz1,hz2,hz3,hz,gp,gb,ge,⟨z,gz,sz⟩,hB⟩:=hrel
  have HZ:=Hid.mk hz
  clear hz
  by_cases hlt:k<256
  ·have hbit:=topBits_succ e k hlt he0
   cases hbv:(bits BinOp.and IntKind.u8 (byt e ((255-k)/8)/2 ^ ((255-k)%8)) 1==1)
   all_goals
    rw[hbv] at hbit
    have HBIT:=Hid.mk hbit
    clear hbit
    go_wp2_with (refine ld_limbs rfl _ rfl _ _ _ _ _ rfl gp ?_)
    refine (times_any _ _ _ _ _ _ _ _ _ hz0 hz1 hz2 hz3 hz0 hz1 hz2 hz3).mono ?_
    rintro r v1 ⟨q0,q1,q2,q3,hq0,hq1,hq2,hq3,⟨c,ec⟩,rfl,hb1⟩
    have EC:=Hid.mk (pow_sq HZ.out ec)
    clear ec
    have gp1:=bheap hb1 gp (heap_lt gp)
    have gb1:=bheap hb1 gb (heap_lt gb)
    have ge1:=bheap hb1 ge (heap_lt ge)
    have gz1:=bheap hb1 gz (heap_lt gz)
    have hB1:=Below.trans hB (hb1.mono hB.size)
    clear hb1 gp gb ge gz hB
    go_wp2_with (first|(refine st_limbs rfl _ _ rfl _ _ _ _ _ rfl rfl _ _ _ _ gp1 ?_;intro v2 gp2 o2;have gb2:=(o2.block _ (by omega)).trans gb1;have ge2:=(o2.block _ (by omega)).trans ge1;have gz2:=(o2.block _ (by omega)).trans gz1;have hB2:=Below.trans hB1 (Only.below (b:=bs+1) (B:=w.heap.size) o2 (by omega));have ce:=(cell_of_row v2 (w.heap.size+1) ((255-k)/8) _ _ _ ge2).trans (BA_get e _ (by omega)))|(refine ld_limbs rfl _ rfl _ _ _ _ _ rfl gp2 ?_)|(refine ld_limbs rfl _ rfl _ _ _ _ _ rfl gb2 ?_))
   ·exact ⟨⟨k+1,by omega,by go_num,q0,q1,q2,q3,hq0,hq1,hq2,hq3,by rw[HBIT.out];exact pow_even EC.out,gp2,gb2,ge2,⟨z,gz2,sz⟩,hB2⟩,by simp[intOf];omega⟩
   ·refine (times_any _ _ _ _ _ _ _ _ _ hq0 hq1 hq2 hq3 (limb_u64 _ _) (limb_u64 _ _) (limb_u64 _ _) (limb_u64 _ _)).mono ?_
    rintro r v3 ⟨p0,p1,p2,p3,hp0,hp1,hp2,hp3,⟨d,ed⟩,rfl,hb3⟩
    rw[limb_V4 ha0 ha1] at ed
    have ED:=Hid.mk (pow_odd EC.out ed)
    clear ed
    have gp3:=bheap hb3 gp2 (heap_lt gp2)
    have gb3:=bheap hb3 gb2 (heap_lt gb2)
    have ge3:=bheap hb3 ge2 (heap_lt ge2)
    have gz3:=bheap hb3 gz2 (heap_lt gz2)
    have hB3:=Below.trans hB2 (hb3.mono hB2.size)
    clear hb3 gp2 gb2 ge2 gz2 hB2 ce gp1 gb1 ge1 gz1 hB1
    go_wp2_with (refine st_limbs rfl _ _ rfl _ _ _ _ _ rfl rfl _ _ _ _ gp3 ?_;intro v4 gp4 o4)
    have gb4:=(o4.block _ (by omega)).trans gb3
    have ge4:=(o4.block _ (by omega)).trans ge3
    have gz4:=(o4.block _ (by omega)).trans gz3
    have hB4:=Below.trans hB3 (Only.below (b:=bs+1) (B:=w.heap.size) o4 (by omega))
    exact ⟨⟨k+1,by omega,by go_num,p0,p1,p2,p3,hp0,hp1,hp2,hp3,by rw[HBIT.out];exact ED.out,gp4,gb4,ge4,⟨z,gz4,sz⟩,hB4⟩,by simp[intOf];omega⟩
  ·have hk2:k=256:=by omega
   subst hk2
   go_wp2_with (refine ld_limbs rfl _ rfl _ _ _ _ _ rfl gp ?_)
   refine (store_any _ _ _ _ _ hz0 hz1 hz2 hz3).mono ?_
   rintro r v2 ⟨rfl,hb2⟩
   have gz2:=bheap hb2 gz (heap_lt gz)
   have hB2:=Below.trans hB (hb2.mono hB.size)
   clear hb2
   go_wp2_with (refine st_bytes rfl _ _ rfl _ _ rfl rfl _ gz2 sz ?_;intro v3 g3 o3)
   rw[pow_last HZ.out] at g3
   exact bodyPost_ret (v:=.agg (BA (a ^ e.toNat%P255))) (results_cell_row rfl _ _ _ _ _ _ _ rfl g3 Tryz.underlying22 rfl (by rw[BA_size];exact info32)) rfl
    ⟨rfl,Below.trans hB2 (Only.below (b:=w.heap.size+1+1) (B:=w.heap.size) o3 (by omega))⟩
theorem eqItems_BA (x y:Int) (d:Nat) (w:World):∀ (is:List Nat),(∀ i∈is,i<32)→(Op.eqItems (d+1) 5 1 (BA x) (BA y) is).run Tryz.prog w=.ok (is.all fun i=>byt x i==byt y i) w
 | [],_=>by simp[Op.eqItems]
 | i::is,h=>by
  have hi:i<32:=h i (by simp)
  have ih:=eqItems_BA x y d w is (fun j hj=>h j (by simp[hj]))
  have e1:(part 5 (BA x) (i*1)).run Tryz.prog w=.ok (.int .u8 (byt x i)) w:=by
   simp[part,BA_get,hi,go_sem]
  have e2:(part 5 (BA y) (i*1)).run Tryz.prog w=.ok (.int .u8 (byt y i)) w:=by
   simp[part,BA_get,hi,go_sem]
  simp only[Op.eqItems,Sem.run_bind,e1,e2,Result.andThen_ok,run_equalIn_int w d 5 .u8 .u8 _ _ Tryz.underlying5,List.all_cons]
  cases hb:(byt x i==byt y i)
  ·simp
  ·simpa using ih
theorem byt_inj {x y:Int} (hx0:0≤x) (hx1:x<W256) (hy0:0≤y) (hy1:y<W256) (h:∀ i,i<32→byt x i=byt y i):x=y:=by
 rw[← limb_V4 hx0 hx1,← limb_V4 hy0 hy1]
 simp only[← limb_eq]
 simp only[h 0 (by omega),h (0+1) (by omega),h (0+2) (by omega),h (0+3) (by omega),h (0+4) (by omega),h (0+5) (by omega),h (0+6) (by omega),h (0+7) (by omega),
  h 8 (by omega),h (8+1) (by omega),h (8+2) (by omega),h (8+3) (by omega),h (8+4) (by omega),h (8+5) (by omega),h (8+6) (by omega),h (8+7) (by omega),
  h 16 (by omega),h (16+1) (by omega),h (16+2) (by omega),h (16+3) (by omega),h (16+4) (by omega),h (16+5) (by omega),h (16+6) (by omega),h (16+7) (by omega),
  h 24 (by omega),h (24+1) (by omega),h (24+2) (by omega),h (24+3) (by omega),h (24+4) (by omega),h (24+5) (by omega),h (24+6) (by omega),h (24+7) (by omega)]
theorem all_beq {x y:Int} (hx0:0≤x) (hx1:x<W256) (hy0:0≤y) (hy1:y<W256):((List.range 32).all fun i=>byt x i==byt y i)=(x==y):=by
 by_cases h:x=y
 ·subst h;simp
 ·have h1:(x==y)=false:=by simpa using h
  rw[h1]
  cases hb:(List.range 32).all fun i=>byt x i==byt y i with
  | false=>rfl
  | true =>
   exfalso
   apply h
   refine byt_inj hx0 hx1 hy0 hy1 (fun i hi=>?_)
   have:=List.all_eq_true.1 hb i (List.mem_range.2 hi)
   simpa using this
theorem cells5:Tryz.prog.cellsOf 5=1:=by kernel_rfl
theorem info5:(Tryz.prog.info? 5).isSome=true:=by kernel_rfl
theorem equal_bytes (x y:Int) (d:Nat) (w:World):(Op.equalIn (d+1+1) 22 (.agg (BA x)) (.agg (BA y))).run Tryz.prog w=.ok ((List.range 32).all fun i=>byt x i==byt y i) w:=by
 obtain ⟨i,hi⟩:=Option.isSome_iff_exists.1 info5
 rw[run_equalIn_array w (d+1) (BA x) (BA y) Tryz.underlying22 hi,cells5]
 exact eqItems_BA x y d w _ (fun i hi=>List.mem_range.1 hi)
theorem eqg24:Tryz.prog.eqGuardType Tryz.prog.depth 22=false:=by kernel_rfl
theorem run_bs2 (m n:Int) (w:World):(Instr.buildSlice 75 2 #[(0,.agg (BA m)),(1,.agg (BA n))]).run Tryz.prog w=.ok (.slice (some ⟨w.heap.size,0,none⟩) 2 2) (w.alloc (.cells (BA m++BA n) 22)):=by kernel_rfl
theorem run_bs3 (m n k:Int) (w:World):(Instr.buildSlice 75 3 #[(0,.agg (BA m)),(1,.agg (BA n)),(2,.agg (BA k))]).run Tryz.prog w=.ok (.slice (some ⟨w.heap.size,0,none⟩) 3 3) (w.alloc (.cells (BA m++BA n++BA k) 22)):=by kernel_rfl
theorem rows_of {w:World} {b:Nat} {cs:Array Value} {ns:List Int} (hg:w.heap[b]?=some (.cells cs 22 (0,0))) (h:∀ k,k<ns.length→∀ j v,(BA (ns.getD k 0)).toList[j]?=some v→cs[k*32+j]?=some v):RowsAt w b 0 ns :=
 fun k hk j v hv=>by rw[cell_of_row w b _ _ _ _ hg,Nat.zero_add];exact h k hk j v hv
theorem rows2 {w:World} {b:Nat} {x y:Int} (hg:w.heap[b]?=some (.cells (BA x++BA y) 22 (0,0))):RowsAt w b 0 [x,y] :=
 rows_of hg (fun k hk j v hv=>by
  have hj:j<32:=by have:=(List.getElem?_eq_some_iff.1 hv).1;rwa [Array.length_toList,BA_size] at this
  have hk2:k=0∨k=1:=by simp at hk;omega
  rcases hk2 with rfl | rfl
  ·rw[Array.getElem?_append_left (by rw[BA_size];omega)];simpa using hv
  ·rw[Array.getElem?_append_right (by rw[BA_size];omega),BA_size,show 1*32+j-32=j by omega];simpa using hv)
theorem rows3 {w:World} {b:Nat} {x y z:Int} (hg:w.heap[b]?=some (.cells (BA x++BA y++BA z) 22 (0,0))):RowsAt w b 0 [x,y,z] :=
 rows_of hg (fun k hk j v hv=>by
  have hj:j<32:=by have:=(List.getElem?_eq_some_iff.1 hv).1;rwa [Array.length_toList,BA_size] at this
  have hk2:k=0∨k=1∨k=2:=by simp at hk;omega
  rcases hk2 with rfl | rfl | rfl
  ·rw[Array.getElem?_append_left (by rw[Array.size_append,BA_size,BA_size];omega),Array.getElem?_append_left (by rw[BA_size];omega)];simpa using hv
  ·rw[Array.getElem?_append_left (by rw[Array.size_append,BA_size,BA_size];omega),Array.getElem?_append_right (by rw[BA_size];omega),BA_size,show 1*32+j-32=j by omega];simpa using hv
  ·rw[Array.getElem?_append_right (by rw[Array.size_append,BA_size,BA_size];omega),Array.size_append,BA_size,BA_size,show 2*32+j-(32+32)=j by omega];simpa using hv)
def N256 (x:Int):Prop:=0≤x∧x<W256
theorem N256.mod (x:Int):N256 (x%P255):=⟨(mod_lt_P x).1,by have:=(mod_lt_P x).2;unfold P255 at this;unfold W256;unfold P255;omega⟩
theorem add2 (x y:Int) (b:Nat) (w:World) (hx:N256 x) (hy:N256 y) (hr:RowsAt w b 0 [x,y]) (hb:b<w.heap.size):Calls Tryz.prog 166 #[.slice (some ⟨b,0,none⟩) 2 2] w fun r w'=>r=.returned (.agg (BA ((x+y)%P255)))∧Below w.heap.size w w':=by
 have:=add_walk b 0 2 [x,y] w (by simpa using ⟨hx,hy⟩) hr hb (by simp)
 simpa using this
theorem mul2 (x y:Int) (b:Nat) (w:World) (hx:N256 x) (hy:N256 y) (hr:RowsAt w b 0 [x,y]) (hb:b<w.heap.size):Calls Tryz.prog 103 #[.slice (some ⟨b,0,none⟩) 2 2] w fun r w'=>r=.returned (.agg (BA ((x*y)%P255)))∧Below w.heap.size w w':=by
 have:=mul_walk b 0 2 [x,y] w (by simpa using ⟨hx,hy⟩) hr hb (by simp) (by simp) (by simp)
 simpa [lprod] using this
theorem mul3 (x y z:Int) (b:Nat) (w:World) (hx:N256 x) (hy:N256 y) (hz:N256 z) (hr:RowsAt w b 0 [x,y,z]) (hb:b<w.heap.size):Calls Tryz.prog 103 #[.slice (some ⟨b,0,none⟩) 3 3] w fun r w'=>r=.returned (.agg (BA ((x*(y*z))%P255)))∧Below w.heap.size w w':=by
 have:=mul_walk b 0 3 [x,y,z] w (by simpa using ⟨hx,hy,hz⟩) hr hb (by simp) (by simp) (by simp)
 simpa [lprod] using this
def W255:Int:=57896044618658097711785492504343953926634992332820282019728792003956564819968
theorem byt_mod (n:Int) (i k:Nat) (h:i<k):byt (n%256 ^ k) i=byt n i:=by
 unfold byt
 obtain ⟨m,rfl⟩:∃ m,k=i+1+m:=⟨k-(i+1),by omega⟩
 have hp:(0:Int)<256 ^ i:=Int.pow_pos (by decide)
 have e:(256:Int) ^ (i+1+m)=256 ^ i*(256*256 ^ m):=by rw[Int.pow_add,Int.pow_add];simp[Int.mul_assoc]
 rw[e]
 have hq:n%(256 ^ i*(256*256 ^ m))=n-256 ^ i*(256*256 ^ m)*(n/(256 ^ i*(256*256 ^ m))):=by
  have:=Int.emod_add_mul_ediv n (256 ^ i*(256*256 ^ m));omega
 rw[hq,show n-256 ^ i*(256*256 ^ m)*(n/(256 ^ i*(256*256 ^ m)))=n+256 ^ i*(-(256*256 ^ m*(n/(256 ^ i*(256*256 ^ m))))) by
  rw[Int.mul_neg,← Int.mul_assoc,← Int.mul_assoc,Int.mul_assoc (256 ^ i) 256 (256 ^ m)];omega]
 rw[Int.add_mul_ediv_left _ _ (by omega)]
 generalize n/256 ^ i=A
 rw[Int.mul_assoc]
 generalize 256 ^ m*(n/(256 ^ i*(256*256 ^ m)))=B
 omega
theorem BA_ext {cs:Array Value} {n:Int} (hs:cs.size=32) (h:∀ i,i<32→cs[i]?=some (.int .u8 (byt n i))):cs=BA n:=by
 apply Array.ext_getElem?
 intro i
 by_cases hi:i<32
 ·rw[h i hi,BA_get _ _ hi]
 ·rw[Array.getElem?_eq_none (by omega),Array.getElem?_eq_none (by rw[BA_size];omega)]
theorem byt_top {n:Int} (i:Nat) (hi:i<31):byt (n%W255) i=byt n i:=by
 have e:n%W255=(n%W255)%256 ^ 31+256 ^ 31*((n%W255)/256 ^ 31):=by have:=Int.emod_add_mul_ediv (n%W255) (256 ^ 31);omega
 rw[← byt_mod (n%W255) i 31 (by omega),← byt_mod n i 31 (by omega)]
 congr 1
 unfold W255
 omega
theorem byt_31 {n:Int}:byt (n%W255) 31=byt n 31%128:=by
 unfold byt W255
 omega
theorem BA_low (n:Int):(BA n).setIfInBounds 31 (.int .u8 (byt n 31%128))=BA (n%W255):=by
 apply BA_ext
 ·simp[BA_size]
 ·intro i hi
  rw[Array.getElem?_setIfInBounds]
  by_cases h:31=i
  ·subst h;simp[BA_size,byt_31]
  ·rw[if_neg h,BA_get _ _ hi,byt_top i (by omega)]
def val:List Int→Int
 | []=>0
 | d::ds=>d+65536*val ds
end Go.Proofs.YthghcjepdhkfdaaGreatDoor.Fld
