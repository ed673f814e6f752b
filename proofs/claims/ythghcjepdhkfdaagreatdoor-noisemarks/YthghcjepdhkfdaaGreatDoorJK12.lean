/-
  Own text. Package noise: cookies in boxes.
-/
import Derived.Test.YthghcjepdhkfdaaGreatDoorJK11
import Derived.Test.YthghcjepdhkfdaaGreatDoorJK10
import Derived.Test.YthghcjepdhkfdaaGreatDoorJK9
import Derived.Test.YthghcjepdhkfdaaGreatDoorJK1
import Derived.Test.YthghcjepdhkfdaaGreatDoorRows
import Derived.SliceStrings
import Derived.OpenShut
set_option maxHeartbeats 16000000
set_option maxRecDepth 100000
namespace Go.Proofs.YthghcjepdhkfdaaGreatDoor
open Go.RowKit Go.Proofs
theorem enterKoc (args:Array Value) (w:World):(callFunc 111 args).run Tryz.prog w=.ok (.enter 111 args) w:=by kernel_rfl
theorem enterSW (args:Array Value) (w:World):(callFunc 110 args).run Tryz.prog w=.ok (.enter 110 args) w:=by kernel_rfl
theorem enterOW (args:Array Value) (w:World):(callFunc 116 args).run Tryz.prog w=.ok (.enter 116 args) w:=by kernel_rfl
theorem enterCmeT (args:Array Value) (w:World):(callFunc 113 args).run Tryz.prog w=.ok (.enter 113 args) w:=by kernel_rfl
theorem sl24o (b o:Nat) (w:World):(Instr.sliceAt 53 (.pointer (some ⟨b,o,none⟩)) none none none).run Tryz.prog w=.ok (.slice (some ⟨b,o,none⟩) 24 24) w:=by simp[go_sem]
def cmeV (ot:Int) (E:Nat→Int) (k:ByteArray) (i:Nat):Value:=if i<1 then .int .u32 ot else if i<25 then .int .u8 (E (i-1)) else .string k
theorem cmeV_one (ot:Int) (E:Nat→Int) (k:ByteArray) (i:Nat):(cmeV ot E k i).oneCell'=true:=by unfold cmeV;(repeat' split)<;>rfl
def cmeZ:Nat→Value:=cmeV 0 (fun _=>0) ⟨#[]⟩
theorem is_cme:IsSt 150 26:=⟨_,Tryz.underlying150,rfl,by kernel_rfl⟩
theorem run_cmeB (ot:Int) (E:Nat→Int) (k:ByteArray) (w:World):(Instr.build 150 #[(0,.int .u32 ot),(1,.agg (WA .u8 24 E)),(2,.string k)]).run Tryz.prog w=.ok (.agg (SC 26 (cmeV ot E k))) w:=by kernel_rfl
theorem exec_cmeB {a:Act} {o:Oper} {w:World} {x0 x1 x2:Operand} (ho:o.op=.build 150 #[(0,x0),(1,x1),(2,x2)]) {ot:Int} {E:Nat→Int} {k:ByteArray} (h0:a.eval x0=.int .u32 ot) (h1:a.eval x1=.agg (WA .u8 24 E)) (h2:a.eval x2=.string k):(execOp a.eval o).run Tryz.prog w=.ok (.value (.agg (SC 26 (cmeV ot E k)))) w:=by
 have h:=run_cmeB ot E k w
 unfold execOp
 simp only[ho,List.map_toArray,List.map_cons,List.map_nil,h0,h1,h2,Sem.run_bind,h,Result.andThen_ok,Sem.run_pure]
theorem cme_e {w:World} {b:Nat} {ot:Int} {E:Nat→Int} {k:ByteArray} (h:SAt w b 150 26 (cmeV ot E k)):w.rangeAt b 1 (nums .u8 24 E):=h.range (by omega) (fun j hj=>by unfold cmeV;rw[if_neg (by omega),if_pos (by omega),Nat.add_sub_cancel_left])
theorem zeroC (w:World):(zeroValue 150).run Tryz.prog w=.ok (.agg (SC 26 cmeZ)) w:=by kernel_rfl
theorem wl_allocC {ops:Array Oper} {rest:List Oper} {d:Option Tmp} {t:TypeId} {ps:String} {af:Array Edge} {a:Act} {w:World} {Q:Exit→Act→World→Prop}
  (h:∀ w',SAt w' w.heap.size 150 26 cmeZ→Below w.heap.size w w'→wpList Tryz.prog ops Q rest (a.put d (.pointer (some ⟨w.heap.size,0,none⟩))) w') :
  wpList Tryz.prog ops Q ({ dst:=d,op:=.alloc 150,type:=t,pos:=ps,after:=af,guard:=none }::rest) a w :=
 wl_act rfl (act_alloc zeroC rfl (fun w' hb hg=>h w' hg hb))
theorem run_fc (b k:Nat) (w:World):k<3→(Instr.fieldAt 150 (.pointer (some ⟨b,0,none⟩)) k).run Tryz.prog w=.ok (.pointer (some ⟨b,[0,1,25].getD k 0,none⟩)) w:=by
 intro hk
 match k,hk with
 | 0,_=>simp[go_sem]
 | 1,_=>simp[go_sem]
 | 2,_=>simp[go_sem]
theorem exec_fc {a:Act} {o:Oper} {w:World} {x:Operand} {k:Nat} (ho:o.op=.fieldAddr 150 x k) {b:Nat} (hx:a.eval x=.pointer (some ⟨b,0,none⟩)) (hk:k<3):(execOp a.eval o).run Tryz.prog w=.ok (.value (.pointer (some ⟨b,[0,1,25].getD k 0,none⟩))) w:=by
 have h:=run_fc b k w hk
 unfold execOp
 simp only[ho,hx,Sem.run_bind,h,Result.andThen_ok,Sem.run_pure]
set_option linter.unusedSimpArgs false in
theorem cme_text (ot:Int) (E:Nat→Int) (k:ByteArray) (he:Byts 24 E) (hk:k.size≤1000) (w:World) :
  Calls Tryz.prog 113 #[.agg (SC 26 (cmeV ot E k))] w fun x w'=>x=.returned (.string (⟨#[3,0,0,0]⟩++fourT ot++mkS 24 E++k))∧Below w.heap.size w w':=by
 have g0:SAt (w.alloc (.cells (SC 26 (cmeV ot E k)) 150)) w.heap.size 150 26 (cmeV ot E k):=heap_alloc_new w _
 have hB:Below w.heap.size w (w.alloc (.cells (SC 26 (cmeV ot E k)) 150)):=(Below.refl _ w).alloc (Nat.le_refl _) _
 have HL1:Hid ((fourT 3).size+(fourT ot).size≤9223372036854775807):=Hid.mk (by simp only[ByteArray.size_append,fourT_size,mkS_size];omega)
 have HL2:Hid ((fourT 3++fourT ot).size+(mkS 24 E).size≤9223372036854775807):=Hid.mk (by simp only[ByteArray.size_append,fourT_size,mkS_size];omega)
 have HL3:Hid ((fourT 3++fourT ot++mkS 24 E).size+(k).size≤9223372036854775807):=Hid.mk (by simp only[ByteArray.size_append,fourT_size,mkS_size];omega)
 have HE:=Hid.mk he
 go_enter Tryz.func113,Tryz.ntmps113
 go_wp2_with fail
 refine wp_gen (fun v=>SAt v w.heap.size 150 26 (cmeV ot E k)∧Below w.heap.size w v) ⟨g0,hB⟩ ?_
 clear g0 hB
 rintro v0 ⟨g0,hB⟩
 have HG:Hid (∀ u,Below v0.heap.size v0 u→SAt u w.heap.size 150 26 (cmeV ot E k)):=Hid.mk (fun u hu=>g0.kept hu)
 refine wp_region3 (Below v0.heap.size v0) v0.heap.size
   ([]:List (Nat×Cont))
   [kv (.string (fourT 3)),kv (.pointer (some ⟨w.heap.size,0,none⟩)),kv (.int .u32 ot),kv (.string (fourT ot)),kv (.string (fourT 3++fourT ot)),kv (.pointer (some ⟨w.heap.size,1,none⟩)),kv (.slice (some ⟨w.heap.size,1,none⟩) 24 24),kv (.string (mkS 24 E)),kv (.string (fourT 3++fourT ot++mkS 24 E)),kv (.pointer (some ⟨w.heap.size,25,none⟩)),kv (.string k),kv (.string (fourT 3++fourT ot++mkS 24 E++k)),kv (.string (fourT 3++fourT ot++mkS 24 E++k))]
   [.none,.none,.none,.none,.none,.none,.none,.none,.none,.none,.none,.none,.none]
   [some 3,some 4,some 5,some 6,some 7,some 8,some 9,some 10,some 11,some 12,some 13,some 14,some 2]
   [(1,.pointer (some ⟨w.heap.size,0,none⟩))]
   [[],[],[.slot 1],[.slot 2],[.slot 0,.slot 3],[],[.slot 5],[.slot 6],[.slot 4,.slot 7],[],[.slot 9],[.slot 8,.slot 10],[.slot 11]]
   [.slot 12] [3,4,5,6,7,8,9,10,11,12,13,14,2]
   rfl (by kernel_rfl) ⟨rfl,trivial⟩ (Below.refl _ v0).drew (Nat.le_refl _) trivial trivial (below_G (Nat.le_refl _) trivial)
   ⟨
    (fun _ _ ww _ _ _ _ _=>.inl ⟨trivial,fun K hK=>stepc enterLow rfl (args1 rfl) (lowest4_run 3 ww) (fun w' hb=>hK _ _ ⟨touch_below hb,rfl⟩)⟩),
    (fun _ _ _ _ _ _ fr _=>sV (exec_fc (k:=0) rfl fr.1 (by decide))),
    (fun _ _ ww _ hS _ _ kn=>sV (exec_ld rfl kn.1 (run_load32 ((HG.out ww hS).at 0 (by omega))))),
    (fun _ _ ww _ _ _ _ kn=>.inl ⟨trivial,fun K hK=>stepc enterLow rfl (args1 kn.1) (lowest4_run ot ww) (fun w' hb=>hK _ _ ⟨touch_below hb,rfl⟩)⟩),
    (fun _ _ _ _ _ _ _ kn=>sV (exec_catS rfl kn.1 kn.2.1 HL1.out)),
    (fun _ _ _ _ _ _ fr _=>sV (exec_fc (k:=1) rfl fr.1 (by decide))),
    (fun _ _ ww _ _ _ _ kn=>sV (exec_sl rfl kn.1 (sl24o w.heap.size 1 ww))),
    (fun _ _ ww _ hS _ _ kn=>sV (exec_conv rfl kn.1 (str_cells w.heap.size 1 24 ww E HE.out (cme_e (HG.out ww hS))))),
    (fun _ _ _ _ _ _ _ kn=>sV (exec_catS rfl kn.1 kn.2.1 HL2.out)),
    (fun _ _ _ _ _ _ fr _=>sV (exec_fc (k:=2) rfl fr.1 (by decide))),
    (fun _ _ ww _ hS _ _ kn=>sV (exec_ld rfl kn.1 (load_str ((HG.out ww hS).at 25 (by omega))))),
    (fun _ _ _ _ _ _ _ kn=>sV (exec_catS rfl kn.1 kn.2.1 HL3.out)),
    (fun _ _ _ _ _ _ _ kn=>sV (exec_assign rfl kn.1)),
    trivial⟩ ?_
 intro vs own v1 hB1 hs1 kn inj
 clear inj hs1 HG
 have e2:vs 2=_:=kn.1
 clear kn
 simp only[putAll,Act.put,List.setIfInBounds_toArray,List.set_cons_zero,List.set_cons_succ,e2]
 go_wp2_with fail
 go_ret
 exact ⟨by rw[four_lit];rfl,hB.trans (hB1.mono hB.size)⟩
theorem cmeOf_ok (m nx bx:ByteArray) (w:World) (hm:m.size=64) (hk:numA m 0 4=3) (hnx:m.extract 8 32=nx) (hbx:m.extract 32 m.size=bx) :
  Calls Tryz.prog 115 #[.string m] w fun x w'=>x=.returned (.agg (SC 26 (cmeV (numA m 4 4) (txt nx) bx)))∧Below w.heap.size w w':=by
 have g0:SAt (w.alloc (.cells (SC 26 cmeZ) 150)) w.heap.size 150 26 cmeZ:=heap_alloc_new w _
 have hB:Below w.heap.size w (w.alloc (.cells (SC 26 cmeZ) 150)):=(Below.refl _ w).alloc (Nat.le_refl _) _
 have HM:=Hid.mk hm
 have HS1:Hid (∀ u:World,(Instr.sliceAt 9 (.string m) (some (.int .i64 8)) (some (.int .i64 32)) none).run Tryz.prog u=.ok (.string nx) u):=Hid.mk (fun u=>by rw[← hnx];exact strB m 8 32 u (by omega) (by omega))
 have HS2:Hid (∀ u:World,(Instr.sliceAt 9 (.string m) (some (.int .i64 32)) none none).run Tryz.prog u=.ok (.string bx) u):=Hid.mk (fun u=>by rw[← hbx];exact strL m 32 u (by omega))
 have HNX:Hid (nx.size=24):=Hid.mk (by rw[← hnx,ByteArray.size_extract];omega)
 go_enter Tryz.func115,Tryz.ntmps115
 go_wp2_with fail
 refine (needForm_ok m 64 3 _ hm hk (by omega)).mono ?_
 rintro x v1 ⟨rfl,rfl⟩
 clear hm hk
 go_wp2_with fail
 refine Fld.wp_region_steps2 10 _ (fun v=>SAt v w.heap.size 150 26 cmeZ∧Below w.heap.size w v) (fun v v'=>Below v.heap.size v v') (fun i v u=>match i with | 0=>v=Value.string m | 1=>v=Value.int .u32 (numA m 4 4) | 2=>v=Value.string m | 3=>v=Value.string nx | 4=>∃ b cp,v=Value.slice (some ⟨b,0,none⟩) 24 cp∧RowAt u b .u8 5 24 (txt nx) | 5=>∃ b,v=Value.pointer (some ⟨b,0,none⟩)∧RowAt u b .u8 5 24 (txt nx) | 6=>v=Value.agg (WA .u8 24 (txt nx)) | 7=>v=Value.string m | 8=>v=Value.string bx | 9=>v=Value.agg (SC 26 (cmeV (numA m 4 4) (txt nx) bx)) | _=>True) [5,6,7,8,9,10,11,12,13,14]
  [(0,.string m),(2,.pointer (some ⟨w.heap.size,0,none⟩))] [[],[0],[],[2],[3],[4],[5],[],[7],[1,6,8]] rfl (by kernel_rfl) rfl ⟨rfl,rfl,trivial⟩ ⟨g0,Below.drew hB⟩ (fun v v' h hb=>⟨h.1.kept hb,h.2.trans (hb.mono h.2.size)⟩) ?_
  ⟨
  (fun Q a1 ww hS fr kn=>⟨trivial,fun K hK=>wp_value (exec_move rfl fr.1) (hK _ _ rfl (Below.refl _ _))⟩),
  (fun Q a1 ww hS fr kn=>⟨trivial,fun K hK=>stepc enterNum rfl (args2 kn.1 rfl) ((numberAt_run m 4 ww (by have:=HM.out;omega) (by omega)).mono (fun _ _ h=>⟨h.1,h.2▸Below.refl _ _⟩)) (fun w' hb=>hK _ _ rfl hb)⟩),
  (fun Q a1 ww hS fr kn=>⟨trivial,fun K hK=>wp_value (exec_move rfl fr.1) (hK _ _ rfl (Below.refl _ _))⟩),
  (fun Q a1 ww hS fr kn=>⟨trivial,fun K hK=>wp_value (exec_slB (v:=.string m) (u:=.int .i64 8) (r:=.int .i64 32) rfl kn.1 rfl rfl (HS1.out ww)) (hK _ _ rfl (Below.refl _ _))⟩),
  (fun Q a1 ww hS fr kn=>⟨trivial,fun K hK=>act_bytes rfl kn.1 HNX.out (fun w' cp hr hb=>hK _ _ ⟨_,cp,rfl,hr⟩ hb)⟩),
  (fun Q a1 ww hS fr kn=>⟨trivial,fun K hK=>Exists.elim kn.1 fun b h=>Exists.elim h fun cp h=>wp_value (exec_toa rfl h.1 (toa24 b cp ww)) (hK _ _ ⟨b,rfl,h.2⟩ (Below.refl _ _))⟩),
  (fun Q a1 ww hS fr kn=>⟨trivial,fun K hK=>Exists.elim kn.1 fun b h=>wp_value (exec_ldmid rfl isArr24 h.1 (row_range h.2)) (hK _ _ rfl (Below.refl _ _))⟩),
  (fun Q a1 ww hS fr kn=>⟨trivial,fun K hK=>wp_value (exec_move rfl fr.1) (hK _ _ rfl (Below.refl _ _))⟩),
  (fun Q a1 ww hS fr kn=>⟨trivial,fun K hK=>wp_value (exec_slL (v:=.string m) (u:=.int .i64 32) rfl kn.1 rfl (HS2.out ww)) (hK _ _ rfl (Below.refl _ _))⟩),
  (fun Q a1 ww hS fr kn=>⟨trivial,fun K hK=>wp_value (exec_cmeB rfl kn.1 kn.2.1 kn.2.2.1) (hK _ _ rfl (Below.refl _ _))⟩),
  trivial⟩ ?_
 ·intro i v u u' h hb
  match i,h with
  | 0,h=>exact h
  | 1,h=>exact h
  | 2,h=>exact h
  | 3,h=>exact h
  | 4,⟨b,cp,h1,h2⟩=>exact ⟨b,cp,h1,h2.below hb h2.lt⟩
  | 5,⟨b,h1,h2⟩=>exact ⟨b,h1,h2.below hb h2.lt⟩
  | 6,h=>exact h
  | 7,h=>exact h
  | 8,h=>exact h
  | 9,h=>exact h
  | _+10,_=>trivial
 intro vs v9 hS9 hk9
 have e14:vs 14=.agg (SC 26 (cmeV (numA m 4 4) (txt nx) bx)):=hk9 9 (by decide)
 clear hk9
 obtain ⟨g9,hB9⟩:=hS9
 simp only[putAll,Act.put,List.setIfInBounds_toArray,List.set_cons_zero,List.set_cons_succ,e14]
 refine ⟨act_st7 rfl is_cme (cmeV_one _ _ _) (g:=w.heap.size) (by rfl) (by rfl) g9 ?_⟩
 intro v10 g10 o10
 simp only[Act.put]
 go_wp2_with fail
 exact bodyPost_ret (res_c1 Tryz.results115 is_cme g10 (by rfl)) rfl ⟨rfl,hB9.trans (o10.below (Nat.le_refl _))⟩
theorem cmeOf_no (m:ByteArray) (w:World) (hm:¬ (m.size=64∧numA m 0 4=3)) :
  Calls Tryz.prog 115 #[.string m] w fun x w'=>x=gup (if m.size=64 then 11 else 10)∧Below w.heap.size w w':=by
 have hB:Below w.heap.size w (w.alloc (.cells (SC 26 cmeZ) 150)):=(Below.refl _ w).alloc (Nat.le_refl _) _
 go_enter Tryz.func115,Tryz.ntmps115
 go_wp2_with fail
 refine (needForm_no m 64 3 _ hm (by omega)).mono ?_
 rintro x v1 ⟨rfl,rfl⟩
 exact ⟨rfl,rfl,hB⟩
theorem koc_gen (k K:Nat→Int) (w:World) (hE:Env w) (hk:Byts 32 k)
  (hS:∀ u v,Tabs u→Strs u v 2 (two2 ⟨#[99,111,111,107,105,101,45,45]⟩ (mkS 32 k))→Calls Tryz.prog 107 #[v] u fun e w'=>e=.returned (.agg (WA .u8 32 K))∧Below u.heap.size u w') :
  Calls Tryz.prog 111 #[.agg (WA .u8 32 k)] w fun e w'=>e=.returned (.agg (WA .u8 32 K))∧Below w.heap.size w w':=by
 have hB:Below w.heap.size w ((w.alloc (.cells (WA .u8 32 k) 22)).alloc (.cells (WA .u8 32 fun _=>0) 22)):=((Below.refl _ w).alloc (by simp) _).alloc (by simp) _
 have g0:ArrAt ((w.alloc (.cells (WA .u8 32 k) 22)).alloc (.cells (WA .u8 32 fun _=>0) 22)) w.heap.size .u8 22 32 k:=heap_alloc2_old w _ _
 have g1:ArrAt ((w.alloc (.cells (WA .u8 32 k) 22)).alloc (.cells (WA .u8 32 fun _=>0) 22)) (w.heap.size+1) .u8 22 32 (fun _=>0):=heap_alloc2_new w _ _
 have hcv:=str_back 32 w.heap.size 32 _ 32 k g0.row hk rfl
 replace hE:=hE.kept hB
 go_enter Tryz.func111,Tryz.ntmps111
 go_wp2_with (first|(refine wl_value rfl (exec_conv rfl (by rfl) hcv) ?_)|(refine wl_bs2 (s:=⟨#[99,111,111,107,105,101,45,45]⟩) (t:=mkS 32 k) (by rfl) (by rfl) ?_;intro v1 hS1 hb1 hz1;refine Hid.out ?_))
 have e1:∀ o o',((w.alloc o).alloc o').heap.size=w.heap.size+1+1:=fun o o'=>by simp
 rw[e1] at hS1
 replace hE:=hE.kept hb1
 replace hB:=hB.trans (hb1.mono hB.size)
 replace g1:=g1.kept hb1
 clear hb1 hz1 e1 hcv g0
 refine Hid.mk ?_
 go_wp2_with fail
 refine (hS _ _ hE.1 hS1).mono ?_
 rintro x v2 ⟨rfl,hb2⟩
 replace hB:=hB.trans (hb2.mono hB.size)
 replace g1:=g1.kept hb2
 clear hb2 hS1 hS
 go_wp2_with (refine st_arr isArr32 g1 (by rfl) (by rfl) ?_;intro v4 g4 o4;refine Hid.out ?_)
 refine Hid.mk ?_
 go_wp2_with fail
 exact bodyPost_ret (res_arr Tryz.results111 isArr32 g4 (by rfl)) rfl ⟨rfl,hB.trans (o4.below (by omega))⟩
theorem koc_run (k:Nat→Int) (w:World) (hE:Env w) (hk:Byts 32 k):Calls Tryz.prog 111 #[.agg (WA .u8 32 k)] w fun e w'=>e=.returned (.agg (WA .u8 32 (ckK k)))∧Below w.heap.size w w':=by
 have hS:∀ u v,Tabs u→Strs u v 2 (two2 ⟨#[99,111,111,107,105,101,45,45]⟩ (mkS 32 k))→Calls Tryz.prog 107 #[v] u fun e w'=>e=.returned (.agg (WA .u8 32 (ckK k)))∧Below u.heap.size u w':=fun u v hT hS=>by
  have h:=hSum_run v 2 (two2 ⟨#[99,111,111,107,105,101,45,45]⟩ (mkS 32 k)) u hT hS (by omega) (by rw[join2,ByteArray.size_append,mkS_size];exact (show (8:Nat)+32≤1152921504606846976 by omega))
  rw[join2] at h
  unfold ckK
  exact h
 generalize ckK k=K at *
 exact koc_gen k K w hE hk hS
theorem four_num {s:ByteArray} (hs:s.size=4):fourT (numT s)=s:=by
 refine same_ext (by rw[fourT_size,hs]) (fun j hj=>?_)
 rw[fourT_size] at hj
 have h0:=txt_b s 0
 have h1:=txt_b s 1
 have h2:=txt_b s 2
 have h3:=txt_b s 3
 unfold fourT
 rw[txt_mkS (digN_b _ j) hj]
 unfold digN numT
 match j,hj with
 | 0,_=>show (txt s 0+txt s 1*256+txt s 2*65536+txt s 3*16777216)/1%256=txt s 0;omega
 | 1,_=>show (txt s 0+txt s 1*256+txt s 2*65536+txt s 3*16777216)/256%256=txt s 1;omega
 | 2,_=>show (txt s 0+txt s 1*256+txt s 2*65536+txt s 3*16777216)/65536%256=txt s 2;omega
 | 3,_=>show (txt s 0+txt s 1*256+txt s 2*65536+txt s 3*16777216)/16777216%256=txt s 3;omega
def boxE (k nn:Nat→Int) (m c:ByteArray):Ending:=if isWhole m=false then gup 10 else if ¬ c.size=16 then gup 1 else .returned (.string (BoxR k nn m c).1)
theorem boxCookie_run (k nn:Nat→Int) (m c:ByteArray) (w:World) (hE:Env w) (hk:Byts 32 k) (hn:Byts 24 nn) :
  Calls Tryz.prog 69 #[.agg (WA .u8 32 k),.agg (WA .u8 24 nn),.string m,.string c] w fun e w'=>e=boxE k nn m c∧Below w.heap.size w w':=by
 have hB:Below w.heap.size w ((w.alloc (.cells (WA .u8 32 k) 22)).alloc (.cells (WA .u8 24 nn) 53)):=((Below.refl _ w).alloc (by simp) _).alloc (by simp) _
 have g0:ArrAt ((w.alloc (.cells (WA .u8 32 k) 22)).alloc (.cells (WA .u8 24 nn) 53)) w.heap.size .u8 22 32 k:=heap_alloc2_old w _ _
 have g1:ArrAt ((w.alloc (.cells (WA .u8 32 k) 22)).alloc (.cells (WA .u8 24 nn) 53)) (w.heap.size+1) .u8 53 24 nn:=heap_alloc2_new w _ _
 replace hE:=hE.kept hB
 go_enter Tryz.func69,Tryz.ntmps69
 go_wp2_with fail
 refine (hasMarks_run m _).mono ?_
 rintro x v1 ⟨rfl,hb⟩
 replace g0:=g0.kept hb
 replace g1:=g1.kept hb
 replace hE:=hE.kept hb
 replace hB:=hB.trans (hb.mono hB.size)
 clear hb
 cases hw:isWhole m
 ·go_wp2_with fail
  refine (need_no 10 _).mono ?_
  rintro x v2 ⟨rfl,rfl⟩
  exact ⟨rfl,(by unfold boxE;rw[if_pos hw]:boxE k nn m c=gup 10).symm,hB⟩
 go_wp2_with fail
 refine (need_ok 10 _).mono ?_
 rintro x v2 ⟨rfl,rfl⟩
 by_cases hc:c.size=16
 case neg =>
  have hd:((c.size:Int)==16)=false:=beq_false_of_ne (by omega)
  go_wp2_with fail
  refine (need_no 1 _).mono ?_
  rintro x v3 ⟨rfl,rfl⟩
  exact ⟨rfl,(by unfold boxE;rw[if_neg (by rw[hw];decide),if_pos hc]:boxE k nn m c=gup 1).symm,hB⟩
 have hd:((c.size:Int)==16)=true:=by rw[hc];rfl
 go_wp2_with fail
 refine (need_ok 1 _).mono ?_
 rintro x v3 ⟨rfl,rfl⟩
 clear hd
 have hms:m.size=148∨m.size=92:=by unfold isWhole at hw;exact of_decide_eq_true hw
 obtain ⟨n,hn2⟩:∃ n,m.size=n+32:=⟨m.size-32,by omega⟩
 have hn3:m.size-32=n:=by omega
 have hfs:(m.extract n (n+16)).size=16:=by rw[ByteArray.size_extract];omega
 have hAP:=fun u=>apart_run m n u hn2 (by omega)
 obtain ⟨F,hF⟩:∃ X,m.extract n (n+16)=X:=⟨_,rfl⟩
 obtain ⟨Y,hY⟩:∃ X,m.extract 0 n=X:=⟨_,rfl⟩
 obtain ⟨G,hG⟩:∃ X,m.extract (n+16) m.size=X:=⟨_,rfl⟩
 rw[hF] at hfs hAP
 rw[hY,hG] at hAP
 have HKC:=Hid.mk (fun u hu=>koc_run k u hu hk)
 have hSW:=fun u=>SealWide_run (ckK k) nn c F u (ckK_b k 32) hn (by omega) (by omega)
 have hZs:(boxT (der (ckK k) nn) (tailN fun j=>nn (16+j)) c F).size≤1000:=by rw[boxT_size];omega
 obtain ⟨Z,hZ⟩:∃ X,boxT (der (ckK k) nn) (tailN fun j=>nn (16+j)) c F=X:=⟨_,rfl⟩
 rw[hZ] at hSW hZs
 obtain ⟨CK,hCK⟩:∃ X,ckK k=X:=⟨_,rfl⟩
 rw[hCK] at HKC hSW
 have HSW:=Hid.mk hSW
 have HM:Hid (92≤m.size):=Hid.mk (by omega)
 have HTX:=Hid.mk (cme_text (numA m 4 4) nn Z hn (by omega))
 go_wp2_with fail
 refine (hAP _).mono ?_
 rintro x v4 ⟨rfl,hb⟩
 replace g0:=g0.kept hb
 replace g1:=g1.kept hb
 replace hE:=hE.kept hb
 replace hB:=hB.trans (hb.mono hB.size)
 clear hb
 go_wp2_with fail
 have HG0:Hid (∀ u,Below v4.heap.size v4 u→ArrAt u w.heap.size .u8 22 32 k):=Hid.mk (fun u hu=>g0.kept hu)
 have HG1:Hid (∀ u,Below v4.heap.size v4 u→ArrAt u (w.heap.size+1) .u8 53 24 nn):=Hid.mk (fun u hu=>g1.kept hu)
 have HEN:Hid (∀ u,Below v4.heap.size v4 u→Env u):=Hid.mk (fun u hu=>hE.kept hu)
 refine wp_region3 (Below v4.heap.size v4) v4.heap.size
   ([]:List (Nat×Cont))
   [kv (.agg (WA .u8 32 k)),kv (.agg (WA .u8 32 CK)),kv (.agg (WA .u8 24 nn)),kv (.string c),kv (.string F),kv (.string Z),kv (.string Z)]
   [.none,.none,.none,.none,.none,.none,.none]
   [some 26,some 27,some 28,some 29,some 30,some 31,some 12]
   [(4,.pointer (some ⟨w.heap.size,0,none⟩)),(5,.pointer (some ⟨(w.heap.size+1),0,none⟩)),(3,.string c),(10,.string F)]
   [[],[.slot 0],[],[],[],[.slot 1,.slot 2,.slot 3,.slot 4],[.slot 5]]
   [.slot 6] [26,27,28,29,30,31,12]
   rfl (by kernel_rfl) ⟨rfl,rfl,rfl,rfl,trivial⟩ (Below.refl _ v4).drew (Nat.le_refl _) trivial trivial (below_G (Nat.le_refl _) trivial)
   ⟨
    (fun _ _ ww _ hS _ fr _=>sV (look_arr rfl isArr32 (HG0.out ww hS) fr.1)),
    (fun _ _ ww _ hS _ _ kn=>.inl ⟨trivial,fun K hK=>stepc enterKoc rfl (args1 kn.1) (HKC.out ww (HEN.out ww hS)) (fun w' hb=>hK _ _ ⟨touch_below hb,rfl⟩)⟩),
    (fun _ _ ww _ hS _ fr _=>sV (look_arr rfl isArr24 (HG1.out ww hS) fr.2.1)),
    (fun _ _ _ _ _ _ fr _=>sV (exec_move rfl fr.2.2.1)),
    (fun _ _ _ _ _ _ fr _=>sV (exec_move rfl fr.2.2.2.1)),
    (fun _ _ ww _ _ _ _ kn=>.inl ⟨trivial,fun K hK=>stepc enterSW rfl (args4 kn.1 kn.2.1 kn.2.2.1 kn.2.2.2.1) (HSW.out ww) (fun w' hb=>hK _ _ ⟨touch_below hb,rfl⟩)⟩),
    (fun _ _ _ _ _ _ _ kn=>sV (exec_assign rfl kn.1)),
    trivial⟩ ?_
 intro vs12 own12 v5 hb hs1 kn inj
 clear inj hs1
 have e12:vs12 12=_:=kn.1
 clear kn
 replace g0:=g0.kept hb
 replace g1:=g1.kept hb
 replace hE:=hE.kept hb
 replace hB:=hB.trans (hb.mono hB.size)
 clear hb
 simp only[putAll,Act.put,List.setIfInBounds_toArray,List.set_cons_zero,List.set_cons_succ,e12]
 clear HG0 HG1 HEN
 go_wp2_with fail
 have HG1:Hid (∀ u,Below v5.heap.size v5 u→ArrAt u (w.heap.size+1) .u8 53 24 nn):=Hid.mk (fun u hu=>g1.kept hu)
 refine wp_region3 (Below v5.heap.size v5) v5.heap.size
   ([]:List (Nat×Cont))
   [kv (.string m),kv (.int .u32 (numA m 4 4)),kv (.agg (WA .u8 24 nn)),kv (.string Z),kv (.agg (SC 26 (cmeV (numA m 4 4) nn Z))),kv (.string (⟨#[3,0,0,0]⟩++fourT (numA m 4 4)++mkS 24 nn++Z)),kv (.string (⟨#[3,0,0,0]⟩++fourT (numA m 4 4)++mkS 24 nn++Z))]
   [.none,.none,.none,.none,.none,.none,.none]
   [some 32,some 33,some 34,some 35,some 36,some 37,some 8]
   [(2,.string m),(5,.pointer (some ⟨(w.heap.size+1),0,none⟩)),(12,.string Z)]
   [[],[.slot 0],[],[],[.slot 1,.slot 2,.slot 3],[.slot 4],[.slot 5]]
   [.slot 6] [32,33,34,35,36,37,8]
   rfl (by kernel_rfl) ⟨rfl,rfl,rfl,trivial⟩ (Below.refl _ v5).drew (Nat.le_refl _) trivial trivial (below_G (Nat.le_refl _) trivial)
   ⟨
    (fun _ _ _ _ _ _ fr _=>sV (exec_move rfl fr.1)),
    (fun _ _ ww _ _ _ _ kn=>.inl ⟨trivial,fun K hK=>stepc enterNum rfl (args2 kn.1 rfl) ((numberAt_run m 4 ww (by have:=HM.out;omega) (by omega)).mono (fun _ _ h=>⟨h.1,h.2▸Below.refl _ _⟩)) (fun w' hb=>hK _ _ ⟨touch_below hb,rfl⟩)⟩),
    (fun _ _ ww _ hS _ fr _=>sV (look_arr rfl isArr24 (HG1.out ww hS) fr.2.1)),
    (fun _ _ _ _ _ _ fr _=>sV (exec_move rfl fr.2.2.1)),
    (fun _ _ _ _ _ _ _ kn=>sV (exec_cmeB rfl kn.1 kn.2.1 kn.2.2.1)),
    (fun _ _ ww _ _ _ _ kn=>.inl ⟨trivial,fun K hK=>stepc enterCmeT rfl (args1 kn.1) (HTX.out ww) (fun w' hb=>hK _ _ ⟨touch_below hb,rfl⟩)⟩),
    (fun _ _ _ _ _ _ _ kn=>sV (exec_assign rfl kn.1)),
    trivial⟩ ?_
 intro vs8 own8 v6 hb hs1 kn inj
 clear inj hs1
 have e8:vs8 8=_:=kn.1
 clear kn
 replace g0:=g0.kept hb
 replace g1:=g1.kept hb
 replace hE:=hE.kept hb
 replace hB:=hB.trans (hb.mono hB.size)
 clear hb
 simp only[putAll,Act.put,List.setIfInBounds_toArray,List.set_cons_zero,List.set_cons_succ,e8]
 clear HG1
 have hR:boxE k nn m c=.returned (.string (⟨#[3,0,0,0]⟩++fourT (numA m 4 4)++mkS 24 nn++Z)):=by
  unfold boxE BoxR
  have h4:(m.extract 4 8).size=4:=by rw[ByteArray.size_extract];omega
  rw[if_neg (by rw[hw];decide),if_neg (not_not_intro hc),if_neg (by rw[hw];decide),if_neg (not_not_intro hc),hn3,hF,hZ,numA_four m 4 (by omega),four_num h4]
 go_wp2_with fail
 go_ret
 exact ⟨by rw[hR];rfl,hB⟩
def unboxE (k:Nat→Int) (mk m:ByteArray):Ending:=if ¬ (m.size=64∧numA m 0 4=3) then gup (if m.size=64 then 11 else 10) else if ¬ mk.size=16 then gup 1 else
 if (openT (der (ckK k) (txt (m.extract 8 32))) (tailN fun j=>txt (m.extract 8 32) (16+j)) (m.extract 32 m.size) mk).2=0 then .returned (.string (openT (der (ckK k) (txt (m.extract 8 32))) (tailN fun j=>txt (m.extract 8 32) (16+j)) (m.extract 32 m.size) mk).1) else gup 13
theorem unboxCookie_run (k:Nat→Int) (mk m:ByteArray) (w:World) (hE:Env w) (hk:Byts 32 k) :
  Calls Tryz.prog 74 #[.agg (WA .u8 32 k),.string mk,.string m] w fun e w'=>e=unboxE k mk m∧Below w.heap.size w w':=by
 have hB:Below w.heap.size w (w.alloc (.cells (WA .u8 32 k) 22)):=(Below.refl _ w).alloc (by simp) _
 have g0:ArrAt (w.alloc (.cells (WA .u8 32 k) 22)) w.heap.size .u8 22 32 k:=heap_alloc_new w _
 replace hE:=hE.kept hB
 go_enter Tryz.func74,Tryz.ntmps74
 go_wp2_with fail
 by_cases hf:m.size=64∧numA m 0 4=3
 case neg =>
  refine (cmeOf_no m _ hf).mono ?_
  rintro x v1 ⟨rfl,hb⟩
  exact ⟨rfl,(by unfold unboxE;rw[if_pos hf]:unboxE k mk m=gup (if m.size=64 then 11 else 10)).symm,hB.trans (hb.mono hB.size)⟩
 have hms:=hf.1
 obtain ⟨nx,hnx⟩:∃ X,m.extract 8 32=X:=⟨_,rfl⟩
 obtain ⟨bx,hbx⟩:∃ X,m.extract 32 m.size=X:=⟨_,rfl⟩
 have hbs:bx.size≤1000:=by rw[← hbx,ByteArray.size_extract];omega
 refine (cmeOf_ok m nx bx _ hf.1 hf.2 hnx hbx).mono ?_
 rintro x v1 ⟨rfl,hb⟩
 replace g0:=g0.kept hb
 replace hE:=hE.kept hb
 replace hB:=hB.trans (hb.mono hB.size)
 clear hb
 have l1:=g0.lt
 have l2:=hB.size
 have l3:=hE.two
 go_wp2_with (refine wl_allocC ?_;intro v2 g10 hb;refine Hid.out ?_)
 replace g0:=g0.kept hb
 replace hE:=hE.kept hb
 replace hB:=hB.trans (hb.mono hB.size)
 clear hb
 refine Hid.mk ?_
 go_wp2_with (refine st_st is_cme (cmeV_one _ _ _) g10 (by rfl) (by rfl) ?_;intro v3 g1 o6;refine Hid.out ?_)
 replace g0:=g0.only o6 (by omega)
 replace hE:=hE.only o6 (by omega)
 replace hB:=hB.trans (o6.below l2)
 clear o6 g10
 refine Hid.mk ?_
 obtain ⟨b7,hb7⟩:∃ x,v1.heap.size=x:=⟨_,rfl⟩
 rw[hb7] at g1 l1 l2 l3 ⊢
 clear hb7
 by_cases hk16:mk.size=16
 case neg =>
  have hd:((mk.size:Int)==16)=false:=beq_false_of_ne (by omega)
  go_wp2_with fail
  refine (need_no 1 _).mono ?_
  rintro x v4 ⟨rfl,rfl⟩
  exact ⟨rfl,(by unfold unboxE;rw[if_neg (not_not_intro hf),if_pos hk16]:unboxE k mk m=gup 1).symm,hB⟩
 have hd:((mk.size:Int)==16)=true:=by rw[hk16];rfl
 go_wp2_with fail
 refine (need_ok 1 _).mono ?_
 rintro x v4 ⟨rfl,rfl⟩
 clear hd
 have HKC:=Hid.mk (fun u hu=>koc_run k u hu hk)
 have hOW:=fun u=>OpenWide_run (ckK k) (txt nx) bx mk u (ckK_b k 32) (fun j _=>txt_b nx j) (by omega) (by omega)
 have hR0:unboxE k mk m=if (openT (der (ckK k) (txt nx)) (tailN fun j=>txt nx (16+j)) bx mk).2=0 then .returned (.string (openT (der (ckK k) (txt nx)) (tailN fun j=>txt nx (16+j)) bx mk).1) else gup 13:=by
  unfold unboxE
  rw[if_neg (not_not_intro hf),if_neg (not_not_intro hk16),hnx,hbx]
 have hz2:=openT_two (der (ckK k) (txt nx)) (tailN fun j=>txt nx (16+j)) bx mk
 obtain ⟨Z,hZ⟩:∃ X,openT (der (ckK k) (txt nx)) (tailN fun j=>txt nx (16+j)) bx mk=X:=⟨_,rfl⟩
 rw[hZ] at hOW hR0 hz2
 obtain ⟨CK,hCK⟩:∃ X,ckK k=X:=⟨_,rfl⟩
 rw[hCK] at HKC hOW
 have HOW:=Hid.mk hOW
 go_wp2_with fail
 have HG0:Hid (∀ u,Below v4.heap.size v4 u→ArrAt u w.heap.size .u8 22 32 k):=Hid.mk (fun u hu=>g0.kept hu)
 have HG1:Hid (∀ u,Below v4.heap.size v4 u→SAt u b7 150 26 (cmeV (numA m 4 4) (txt nx) bx)):=Hid.mk (fun u hu=>g1.kept hu)
 have HEN:Hid (∀ u,Below v4.heap.size v4 u→Env u):=Hid.mk (fun u hu=>hE.kept hu)
 refine wp_region3 (Below v4.heap.size v4) v4.heap.size
   ([]:List (Nat×Cont))
   [kv (.agg (WA .u8 32 k)),kv (.agg (WA .u8 32 CK)),kv (.pointer (some ⟨b7,1,none⟩)),kv (.agg (WA .u8 24 (txt nx))),kv (.pointer (some ⟨b7,25,none⟩)),kv (.string bx),kv (.string mk),kv (.tuple #[.string Z.1,.int .i64 Z.2]),kv (.tuple #[.string Z.1,.int .i64 Z.2]),kv (.string Z.1),kv (.int .i64 Z.2),kv (.string Z.1),kv (.int .i64 Z.2)]
   [.none,.none,.none,.none,.none,.none,.none,.none,.none,.none,.none,.none,.none]
   [some 17,some 18,some 19,some 20,some 21,some 22,some 23,some 24,some 16,some 25,some 26,some 8,some 9]
   [(3,.pointer (some ⟨w.heap.size,0,none⟩)),(7,.pointer (some ⟨b7,0,none⟩)),(1,.string mk)]
   [[],[.slot 0],[],[.slot 2],[],[.slot 4],[],[.slot 1,.slot 3,.slot 5,.slot 6],[.slot 7],[.slot 8],[.slot 8],[.slot 9],[.slot 10]]
   [.slot 11,.slot 12] [17,18,19,20,21,22,23,24,16,25,26,8,9]
   rfl (by kernel_rfl) ⟨rfl,rfl,rfl,trivial⟩ (Below.refl _ v4).drew (Nat.le_refl _) trivial trivial (below_G (Nat.le_refl _) trivial)
   ⟨
    (fun _ _ ww _ hS _ fr _=>sV (look_arr rfl isArr32 (HG0.out ww hS) fr.1)),
    (fun _ _ ww _ hS _ _ kn=>.inl ⟨trivial,fun K hK=>stepc enterKoc rfl (args1 kn.1) (HKC.out ww (HEN.out ww hS)) (fun w' hb=>hK _ _ ⟨touch_below hb,rfl⟩)⟩),
    (fun _ _ _ _ _ _ fr _=>sV (exec_fc (k:=1) rfl fr.2.1 (by decide))),
    (fun _ _ ww _ hS _ _ kn=>sV (exec_ldmid rfl isArr24 kn.1 (cme_e (HG1.out ww hS)))),
    (fun _ _ _ _ _ _ fr _=>sV (exec_fc (k:=2) rfl fr.2.1 (by decide))),
    (fun _ _ ww _ hS _ _ kn=>sV (exec_ld rfl kn.1 (load_str ((HG1.out ww hS).at 25 (by omega))))),
    (fun _ _ _ _ _ _ fr _=>sV (exec_move rfl fr.2.2.1)),
    (fun _ _ ww _ _ _ _ kn=>.inl ⟨trivial,fun K hK=>stepc enterOW rfl (args4 kn.1 kn.2.1 kn.2.2.1 kn.2.2.2.1) (HOW.out ww) (fun w' hb=>hK _ _ ⟨touch_below hb,rfl⟩)⟩),
    (fun _ _ _ _ _ _ _ kn=>sV (exec_move rfl kn.1)),
    (fun _ _ _ _ _ _ _ kn=>sV (exec_ext rfl kn.1 rfl)),
    (fun _ _ _ _ _ _ _ kn=>sV (exec_ext rfl kn.1 rfl)),
    (fun _ _ _ _ _ _ _ kn=>sV (exec_assign rfl kn.1)),
    (fun _ _ _ _ _ _ _ kn=>sV (exec_assign rfl kn.1)),
    trivial⟩ ?_
 intro vs own v5 hb hs1 kn inj
 clear inj hs1 HG0 HG1 HEN
 have e8:vs 8=_:=kn.1
 have e9:vs 9=_:=kn.2.1
 clear kn
 replace hB:=hB.trans (hb.mono hB.size)
 clear hb
 simp only[putAll,Act.put,List.setIfInBounds_toArray,List.set_cons_zero,List.set_cons_succ,e8,e9]
 rcases hz2 with hz | hz
 ·rw[hz]
  go_wp2_with fail
  refine (need_ok 0 _).mono ?_
  rintro x v6 ⟨rfl,rfl⟩
  go_wp2_with fail
  go_ret
  exact ⟨by rw[hR0,if_pos hz];rfl,hB⟩
 ·have hz3:¬ Z.2=0:=by rw[hz];decide
  have hz4:Z.2=13:=by rw[hz]
  rw[hz4]
  go_wp2_with fail
  refine (need_no 13 _).mono ?_
  rintro x v6 ⟨rfl,rfl⟩
  exact ⟨rfl,by rw[hR0,if_neg hz3];rfl,hB⟩
theorem kind_at (m:ByteArray) (n:UInt8) (h:4≤m.size):numA m 0 4=(n.toNat:Int)↔m.extract 0 4=⟨#[n,0,0,0]⟩:=by
 have h1:(m.extract 0 4).size=4:=by rw[ByteArray.size_extract];omega
 have h2:=numA_four m 0 h
 rw[Nat.zero_add] at h2
 rw[h2]
 exact kind_iff h1 n
theorem Mark_all (m:ByteArray) (to:Nat→Int) (c:ByteArray) (w:World) (hE:Env w) (hto:Byts 32 to) :
  Calls Tryz.prog 19 #[.string m,.agg (WA .u8 32 to),.string c] w fun e w'=>e=.returned (.tuple #[.string (MarkR m to c).1,.int .i64 (MarkR m to c).2])∧Below w.heap.size w w':=by
 have hst:=fun u hu=>withMarks_run m to c u hu hto
 unfold markE at hst
 unfold MarkR
 by_cases h1:¬ (m.size=116∨m.size=60)
 ·simp only[if_pos h1] at hst ⊢
  exact Mark_no m to c 10 w hE hst
 ·by_cases h2:¬ (c.size=0∨c.size=16)
  ·simp only[if_neg h1,if_pos h2] at hst ⊢
   exact Mark_no m to c 1 w hE hst
  ·simp only[if_neg h1,if_neg h2] at hst ⊢
   exact Mark_ok m to c _ w hE hst
theorem enterHi (args:Array Value) (w:World):(callFunc 56 args).run Tryz.prog w=.ok (.enter 56 args) w:=by kernel_rfl
theorem enterMB (args:Array Value) (w:World):(callFunc 67 args).run Tryz.prog w=.ok (.enter 67 args) w:=by kernel_rfl
theorem sl16o (b o:Nat) (w:World):(Instr.sliceAt 54 (.pointer (some ⟨b,o,none⟩)) none none none).run Tryz.prog w=.ok (.slice (some ⟨b,o,none⟩) 16 16) w:=by simp[go_sem]
theorem end_bc {w:World} {b:Nat} {v:Bool} {B:Nat→Int} {p:Int} (h:SAt w b 58 18 (endV v B p)):w.rangeAt b 1 (nums .u8 16 B):=h.range (by omega) (fun j hj=>by unfold endV;rw[if_neg (by omega),if_pos (by omega),Nat.add_sub_cancel_left])
theorem end_p {w:World} {b:Nat} {v:Bool} {B:Nat→Int} {p:Int} (h:SAt w b 58 18 (endV v B p)):w.cell? ⟨b,17,none⟩=some (.int .i64 p):=h.at 17 (by omega)
theorem conv_p (n:Int) (w:World):(convert 3 98 (.int .i64 n)).run Tryz.prog w=.ok (.int .u64 (n%18446744073709551616)) w:=by
 simp[go_sem,IntKind.wrap_u64]
def three3 (a b c:ByteArray):Nat→ByteArray
 | 0=>a
 | 1=>b
 | _=>c
theorem join3 (a b c:ByteArray):joinB (three3 a b c) 3=a++b++c:=by simp[joinB,three3]
theorem strs3 {w:World} {b:Nat} {s t u:ByteArray} (h:w.heap[b]?=some (.cells #[.string s,.string t,.string u] 9 (0,0))):Strs w (.slice (some ⟨b,0,none⟩) 3 3) 3 (three3 s t u) :=
 ⟨_,_,rfl,fun _=>⟨_,rfl,fun j hj=>by
  rw[Addr.add_lit,cell_of_row w b _ _ _ _ h]
  match j,hj with
  | 0,_=>rfl
  | 1,_=>rfl
  | 2,_=>rfl⟩⟩
theorem run_bs3 (s t u:ByteArray) (w:World):(Instr.buildSlice 146 3 #[(0,.string s),(1,.string t),(2,.string u)]).run Tryz.prog w=.ok (.slice (some ⟨w.heap.size,0,none⟩) 3 3) (w.alloc (.cells #[.string s,.string t,.string u] 9)):=by simp[go_sem]
theorem act_bs3 {o:Oper} {a:Act} {w:World} {K:Act→World→Prop} {Q:Exit→Act→World→Prop} {x y z:Operand} (ho:o.op=.buildSlice 146 3 #[(0,x),(1,y),(2,z)]) {s t u:ByteArray} (hx:a.eval x=.string s) (hy:a.eval y=.string t) (hz:a.eval z=.string u)
  (h:∀ v,v.heap[w.heap.size]?=some (.cells #[.string s,.string t,.string u] 9 (0,0))→Below w.heap.size w v→K (a.put o.dst (.slice (some ⟨w.heap.size,0,none⟩) 3 3)) v):o.wp Tryz.prog a w K Q:=by
 have hr:=run_bs3 s t u w
 unfold Oper.wp execOp
 simp only[ho,List.map_toArray,List.map_cons,List.map_nil,hx,hy,hz,Sem.run_bind,hr,Result.andThen_ok,Sem.run_pure,Oper.upon]
 exact h _ (heap_alloc_new w _) ((Below.refl _ _).alloc (Nat.le_refl _) _)
theorem Cookie_run (s:Nat→Int) (v:Bool) (B:Nat→Int) (p:Int) (w:World) (hE:Env w) (hs:Byts 32 s) (hBt:Byts 16 B) :
  Calls Tryz.prog 22 #[.agg (WA .u8 32 s),.agg (SC 18 (endV v B p))] w fun e w'=>e=.returned (.string (CookieR s v B p))∧Below w.heap.size w w':=by
 have g0:ArrAt ((w.alloc (.cells (WA .u8 32 s) 22)).alloc (.cells (SC 18 (endV v B p)) 58)) w.heap.size .u8 22 32 s:=heap_alloc2_old w _ _
 have g1:SAt ((w.alloc (.cells (WA .u8 32 s) 22)).alloc (.cells (SC 18 (endV v B p)) 58)) (w.heap.size+1) 58 18 (endV v B p):=heap_alloc2_new w _ _
 have hB:Below w.heap.size w ((w.alloc (.cells (WA .u8 32 s) 22)).alloc (.cells (SC 18 (endV v B p)) 58)):=((Below.refl _ w).alloc (by simp) _).alloc (by simp) _
 replace hE:=hE.kept hB
 have HSB:=Hid.mk hs
 have HBB:=Hid.mk hBt
 have hPP:mkS 2 (hiD (p%18446744073709551616) 2)=mkS 2 (prt7 p):=mkS_congr (fun j hj=>by
  unfold hiD prt7
  match j,hj with
  | 0,_=>show p%18446744073709551616/256%256=p/256%256;omega
  | 1,_=>show p%18446744073709551616/1%256=p%256;omega)
 cases v
 ·have hV:(⟨#[4]⟩:ByteArray)=mkS 1 (fun _=>4):=by decide +kernel
  obtain ⟨V,hVe⟩:∃ X,(⟨#[4]⟩:ByteArray)=X:=⟨_,rfl⟩
  have hMB:∀ u y,Env u→Strs u y 3 (three3 V (mkS 16 B) (mkS 2 (hiD (p%18446744073709551616) 2)))→Calls Tryz.prog 67 #[.string (mkS 32 s),y] u fun e w'=>e=.returned (.string (CookieR s false B p))∧Below u.heap.size u w':=fun u y hu hy=>by
   have h:=markBy_run (mkS 32 s) y 3 (three3 V (mkS 16 B) (mkS 2 (hiD (p%18446744073709551616) 2))) u hu hy (by omega) (by rw[join3,ByteArray.size_append,ByteArray.size_append,mkS_size,mkS_size,← hVe];exact (show (1:Nat)+16+2≤562949953421312 by omega))
   rw[join3,← hVe,hV,hPP] at h
   exact h
  obtain ⟨R,hR⟩:∃ X,CookieR s false B p=X:=⟨_,rfl⟩
  rw[hR] at hMB ⊢
  have HMB:=Hid.mk hMB
  have hcv:_:=g1.at 0 (by omega)
  replace hcv:_=some (Value.bool false):=hcv
  go_enter Tryz.func22,Tryz.ntmps22
  go_wp2_with fail
  rw[hVe]
  refine wp_gen (fun u=>ArrAt u w.heap.size .u8 22 32 s∧SAt u (w.heap.size+1) 58 18 (endV false B p)∧Below w.heap.size w u∧Env u) ⟨g0,g1,hB,hE⟩ ?_
  clear g0 g1 hB hE hcv
  rintro v0 ⟨g0,g1,hB,hE⟩
  have HG0:Hid (∀ u,Below v0.heap.size v0 u→ArrAt u w.heap.size .u8 22 32 s):=Hid.mk (fun u hu=>g0.kept hu)
  have HG1:Hid (∀ u,Below v0.heap.size v0 u→SAt u (w.heap.size+1) 58 18 (endV false B p)):=Hid.mk (fun u hu=>g1.kept hu)
  have HEN:Hid (∀ u,Below v0.heap.size v0 u→Env u):=Hid.mk (fun u hu=>hE.kept hu)
  refine wp_region3 (Below v0.heap.size v0) v0.heap.size
    ([]:List (Nat×Cont))
    [kv (.slice (some ⟨w.heap.size,0,none⟩) 32 32),kv (.string (mkS 32 s)),kv (.string V),kv (.pointer (some ⟨(w.heap.size+1),0,none⟩)),kv (.pointer (some ⟨(w.heap.size+1),1,none⟩)),kv (.slice (some ⟨(w.heap.size+1),1,none⟩) 16 16),kv (.string (mkS 16 B)),kv (.pointer (some ⟨(w.heap.size+1),17,none⟩)),kv (.int .i64 p),kv (.int .u64 (p%18446744073709551616)),kv (.string (mkS 2 (hiD (p%18446744073709551616) 2))),ks 3 #[.string V,.string (mkS 16 B),.string (mkS 2 (hiD (p%18446744073709551616) 2))] 9,kv (.string R),kv (.string R)]
    [.none,.none,.none,.none,.none,.none,.none,.none,.none,.none,.none,.none,.none,.none]
    [some 9,some 10,some 11,some 12,some 13,some 14,some 15,some 16,some 17,some 18,some 19,some 20,some 21,some 4]
    [(2,.pointer (some ⟨w.heap.size,0,none⟩)),(5,.string V),(3,.pointer (some ⟨(w.heap.size+1),0,none⟩))]
    [[],[.slot 0],[],[],[.slot 3],[.slot 4],[.slot 5],[],[.slot 7],[.slot 8],[.slot 9],[.slot 2,.slot 6,.slot 10],[.slot 1,.slot 11,.cont 11 0],[.slot 12]]
    [.slot 13] [9,10,11,12,13,14,15,16,17,18,19,20,21,4]
    rfl (by kernel_rfl) ⟨rfl,rfl,rfl,trivial⟩ (Below.refl _ v0).drew (Nat.le_refl _) trivial trivial (below_G (Nat.le_refl _) trivial)
    ⟨
     (fun _ _ ww _ _ _ fr _=>sV (exec_sl rfl fr.1 (sl32o w.heap.size 0 ww))),
     (fun _ _ ww _ hS _ _ kn=>sV (exec_conv rfl kn.1 (str_back 32 w.heap.size 32 ww 32 s (HG0.out ww hS).row HSB.out rfl))),
     (fun _ _ _ _ _ _ fr _=>sV (exec_move rfl fr.2.1)),
     (fun _ _ _ _ _ _ fr _=>sV (exec_fe0 rfl fr.2.2.1)),
     (fun _ _ _ _ _ _ _ kn=>sV (exec_fa1 rfl kn.1)),
     (fun _ _ ww _ _ _ _ kn=>sV (exec_sl rfl kn.1 (sl16o (w.heap.size+1) 1 ww))),
     (fun _ _ ww _ hS _ _ kn=>sV (exec_conv rfl kn.1 (str_cells (w.heap.size+1) 1 16 ww B HBB.out (end_bc (HG1.out ww hS))))),
     (fun _ _ _ _ _ _ fr _=>sV (exec_fe1 rfl fr.2.2.1)),
     (fun _ _ ww _ hS _ _ kn=>sV (exec_ld rfl kn.1 (load_int (end_p (HG1.out ww hS))))),
     (fun _ _ ww _ _ _ _ kn=>sV (exec_conv rfl kn.1 (conv_p p ww))),
     (fun _ _ ww _ _ _ _ kn=>.inl ⟨trivial,fun K hK=>stepc enterHi rfl (args2 kn.1 rfl) (highest_run (p%18446744073709551616) 2 ww (by omega)) (fun w' hb=>hK _ _ ⟨touch_below hb,rfl⟩)⟩),
     (fun _ _ _ _ _ _ _ kn=>.inl ⟨trivial,fun K hK=>act_bs3 rfl kn.1 kn.2.1 kn.2.2.1 (fun v hg hb=>hK _ _ ⟨touch_below hb,_,Nat.le_refl _,rfl,obIn hg⟩)⟩),
     (fun _ _ ww _ hS _ _ kn=>.inl ⟨trivial,fun K hK=>stepc enterMB rfl (args2 kn.1 kn.2.1.1) (HMB.out ww _ (HEN.out ww hS) (strs3 (obAt kn.2.2.1))) (fun w' hb=>hK _ _ ⟨touch_below hb,rfl⟩)⟩),
     (fun _ _ _ _ _ _ _ kn=>sV (exec_assign rfl kn.1)),
     trivial⟩ ?_
  intro vs own v5 hb hs1 kn inj
  clear inj hs1 HG0 HG1 HEN
  have e4:vs 4=_:=kn.1
  clear kn
  simp only[putAll,Act.put,List.setIfInBounds_toArray,List.set_cons_zero,List.set_cons_succ,e4]
  go_wp2_with fail
  go_ret
  exact ⟨rfl,hB.trans (hb.mono hB.size)⟩
 ·have hV:(⟨#[6]⟩:ByteArray)=mkS 1 (fun _=>6):=by decide +kernel
  obtain ⟨V,hVe⟩:∃ X,(⟨#[6]⟩:ByteArray)=X:=⟨_,rfl⟩
  have hMB:∀ u y,Env u→Strs u y 3 (three3 V (mkS 16 B) (mkS 2 (hiD (p%18446744073709551616) 2)))→Calls Tryz.prog 67 #[.string (mkS 32 s),y] u fun e w'=>e=.returned (.string (CookieR s true B p))∧Below u.heap.size u w':=fun u y hu hy=>by
   have h:=markBy_run (mkS 32 s) y 3 (three3 V (mkS 16 B) (mkS 2 (hiD (p%18446744073709551616) 2))) u hu hy (by omega) (by rw[join3,ByteArray.size_append,ByteArray.size_append,mkS_size,mkS_size,← hVe];exact (show (1:Nat)+16+2≤562949953421312 by omega))
   rw[join3,← hVe,hV,hPP] at h
   exact h
  obtain ⟨R,hR⟩:∃ X,CookieR s true B p=X:=⟨_,rfl⟩
  rw[hR] at hMB ⊢
  have HMB:=Hid.mk hMB
  have hcv:_:=g1.at 0 (by omega)
  replace hcv:_=some (Value.bool true):=hcv
  go_enter Tryz.func22,Tryz.ntmps22
  go_wp2_with fail
  rw[hVe]
  refine wp_gen (fun u=>ArrAt u w.heap.size .u8 22 32 s∧SAt u (w.heap.size+1) 58 18 (endV true B p)∧Below w.heap.size w u∧Env u) ⟨g0,g1,hB,hE⟩ ?_
  clear g0 g1 hB hE hcv
  rintro v0 ⟨g0,g1,hB,hE⟩
  have HG0:Hid (∀ u,Below v0.heap.size v0 u→ArrAt u w.heap.size .u8 22 32 s):=Hid.mk (fun u hu=>g0.kept hu)
  have HG1:Hid (∀ u,Below v0.heap.size v0 u→SAt u (w.heap.size+1) 58 18 (endV true B p)):=Hid.mk (fun u hu=>g1.kept hu)
  have HEN:Hid (∀ u,Below v0.heap.size v0 u→Env u):=Hid.mk (fun u hu=>hE.kept hu)
  refine wp_region3 (Below v0.heap.size v0) v0.heap.size
    ([]:List (Nat×Cont))
    [kv (.slice (some ⟨w.heap.size,0,none⟩) 32 32),kv (.string (mkS 32 s)),kv (.string V),kv (.pointer (some ⟨(w.heap.size+1),0,none⟩)),kv (.pointer (some ⟨(w.heap.size+1),1,none⟩)),kv (.slice (some ⟨(w.heap.size+1),1,none⟩) 16 16),kv (.string (mkS 16 B)),kv (.pointer (some ⟨(w.heap.size+1),17,none⟩)),kv (.int .i64 p),kv (.int .u64 (p%18446744073709551616)),kv (.string (mkS 2 (hiD (p%18446744073709551616) 2))),ks 3 #[.string V,.string (mkS 16 B),.string (mkS 2 (hiD (p%18446744073709551616) 2))] 9,kv (.string R),kv (.string R)]
    [.none,.none,.none,.none,.none,.none,.none,.none,.none,.none,.none,.none,.none,.none]
    [some 9,some 10,some 11,some 12,some 13,some 14,some 15,some 16,some 17,some 18,some 19,some 20,some 21,some 4]
    [(2,.pointer (some ⟨w.heap.size,0,none⟩)),(5,.string V),(3,.pointer (some ⟨(w.heap.size+1),0,none⟩))]
    [[],[.slot 0],[],[],[.slot 3],[.slot 4],[.slot 5],[],[.slot 7],[.slot 8],[.slot 9],[.slot 2,.slot 6,.slot 10],[.slot 1,.slot 11,.cont 11 0],[.slot 12]]
    [.slot 13] [9,10,11,12,13,14,15,16,17,18,19,20,21,4]
    rfl (by kernel_rfl) ⟨rfl,rfl,rfl,trivial⟩ (Below.refl _ v0).drew (Nat.le_refl _) trivial trivial (below_G (Nat.le_refl _) trivial)
    ⟨
     (fun _ _ ww _ _ _ fr _=>sV (exec_sl rfl fr.1 (sl32o w.heap.size 0 ww))),
     (fun _ _ ww _ hS _ _ kn=>sV (exec_conv rfl kn.1 (str_back 32 w.heap.size 32 ww 32 s (HG0.out ww hS).row HSB.out rfl))),
     (fun _ _ _ _ _ _ fr _=>sV (exec_move rfl fr.2.1)),
     (fun _ _ _ _ _ _ fr _=>sV (exec_fe0 rfl fr.2.2.1)),
     (fun _ _ _ _ _ _ _ kn=>sV (exec_fa1 rfl kn.1)),
     (fun _ _ ww _ _ _ _ kn=>sV (exec_sl rfl kn.1 (sl16o (w.heap.size+1) 1 ww))),
     (fun _ _ ww _ hS _ _ kn=>sV (exec_conv rfl kn.1 (str_cells (w.heap.size+1) 1 16 ww B HBB.out (end_bc (HG1.out ww hS))))),
     (fun _ _ _ _ _ _ fr _=>sV (exec_fe1 rfl fr.2.2.1)),
     (fun _ _ ww _ hS _ _ kn=>sV (exec_ld rfl kn.1 (load_int (end_p (HG1.out ww hS))))),
     (fun _ _ ww _ _ _ _ kn=>sV (exec_conv rfl kn.1 (conv_p p ww))),
     (fun _ _ ww _ _ _ _ kn=>.inl ⟨trivial,fun K hK=>stepc enterHi rfl (args2 kn.1 rfl) (highest_run (p%18446744073709551616) 2 ww (by omega)) (fun w' hb=>hK _ _ ⟨touch_below hb,rfl⟩)⟩),
     (fun _ _ _ _ _ _ _ kn=>.inl ⟨trivial,fun K hK=>act_bs3 rfl kn.1 kn.2.1 kn.2.2.1 (fun v hg hb=>hK _ _ ⟨touch_below hb,_,Nat.le_refl _,rfl,obIn hg⟩)⟩),
     (fun _ _ ww _ hS _ _ kn=>.inl ⟨trivial,fun K hK=>stepc enterMB rfl (args2 kn.1 kn.2.1.1) (HMB.out ww _ (HEN.out ww hS) (strs3 (obAt kn.2.2.1))) (fun w' hb=>hK _ _ ⟨touch_below hb,rfl⟩)⟩),
     (fun _ _ _ _ _ _ _ kn=>sV (exec_assign rfl kn.1)),
     trivial⟩ ?_
  intro vs own v5 hb hs1 kn inj
  clear inj hs1 HG0 HG1 HEN
  have e4:vs 4=_:=kn.1
  clear kn
  simp only[putAll,Act.put,List.setIfInBounds_toArray,List.set_cons_zero,List.set_cons_succ,e4]
  go_wp2_with fail
  go_ret
  exact ⟨rfl,hB.trans (hb.mono hB.size)⟩
theorem cut_two (m:ByteArray) (n:Nat) (h:n+16≤m.size):m.extract 0 n++m.extract n (n+16)=m.extract 0 (n+16):=by
 have h1:(m.extract 0 n).size=n:=by rw[ByteArray.size_extract];omega
 refine same_ext (by rw[ByteArray.size_append,h1,ByteArray.size_extract,ByteArray.size_extract];omega) (fun j hj=>?_)
 rw[ByteArray.size_append,h1,ByteArray.size_extract] at hj
 rw[txt_append,h1,txt_part m 0 (n+16) j (by omega) h,Nat.zero_add]
 by_cases e:j<n
 ·rw[if_pos e,txt_part m 0 n j (by omega) (by omega),Nat.zero_add]
 ·rw[if_neg e,txt_part m n (n+16) (j-n) (by omega) h,show n+(j-n)=j by omega]
theorem Cookied_run (m c:ByteArray) (w:World) (hE:Env w) :
  Calls Tryz.prog 29 #[.string m,.string c] w fun e w'=>e=.returned (.bool (CookiedR m c))∧Below w.heap.size w w':=by
 have hB:Below w.heap.size w w:=Below.refl _ w
 cases hw:isWhole m
 ·have hR:CookiedR m c=false:=by unfold CookiedR;rw[hw];rfl
  rw[hR]
  go_enter Tryz.func29,Tryz.ntmps29
  go_wp2_with fail
  refine (hasMarks_run m _).mono ?_
  rintro x v1 ⟨rfl,hb⟩
  rw[hw]
  go_wp2_with fail
  go_ret
  exact ⟨rfl,hb⟩
 ·by_cases hc:c.size=16
  case neg =>
   have hR:CookiedR m c=false:=by unfold CookiedR;rw[hw,decide_eq_false hc];rfl
   rw[hR]
   have hd:((c.size:Int) != 16)=true:=bne_iff_ne.2 (by omega)
   go_enter Tryz.func29,Tryz.ntmps29
   go_wp2_with fail
   refine (hasMarks_run m _).mono ?_
   rintro x v1 ⟨rfl,hb⟩
   rw[hw]
   go_wp2_with fail
   go_ret
   exact ⟨rfl,hb⟩
  have hd:((c.size:Int) != 16)=false:=by rw[hc];rfl
  have hms:m.size=148∨m.size=92:=by unfold isWhole at hw;exact of_decide_eq_true hw
  obtain ⟨n,hn⟩:∃ n,m.size=n+32:=⟨m.size-32,by omega⟩
  have hn2:m.size-16=n+16:=by omega
  have hR:CookiedR m c=decide (m.extract (n+16) m.size=(keyedT 16 c (m.extract 0 n++m.extract n (n+16))).1):=by
   unfold CookiedR
   rw[hw,hn2,decide_eq_true hc,Bool.true_and,Bool.true_and,cut_two m n (by omega)]
   exact decide_eq_decide.2 eq_comm
  rw[hR]
  have hxs:(m.extract n (n+16)).size≤1000:=by rw[ByteArray.size_extract];omega
  have hys:(m.extract 0 n).size≤1000:=by rw[ByteArray.size_extract];omega
  have hvs:(m.extract (n+16) m.size).size≤1000:=by rw[ByteArray.size_extract];omega
  have hAP:=fun u=>apart_run m n u hn (by omega)
  obtain ⟨X,hX⟩:∃ X,m.extract n (n+16)=X:=⟨_,rfl⟩
  obtain ⟨Y,hY⟩:∃ X,m.extract 0 n=X:=⟨_,rfl⟩
  obtain ⟨V,hV⟩:∃ X,m.extract (n+16) m.size=X:=⟨_,rfl⟩
  rw[hX] at hxs hAP ⊢
  rw[hY] at hys hAP ⊢
  rw[hV] at hvs hAP ⊢
  go_enter Tryz.func29,Tryz.ntmps29
  go_wp2_with fail
  refine (hasMarks_run m _).mono ?_
  rintro x v1 ⟨rfl,hb⟩
  rw[hw]
  replace hE:=hE.kept hb
  replace hB:=hB.trans (hb.mono hB.size)
  clear hb
  go_wp2_with fail
  refine (hAP _).mono ?_
  rintro x v2 ⟨rfl,hb⟩
  replace hE:=hE.kept hb
  replace hB:=hB.trans (hb.mono hB.size)
  clear hb
  go_wp2_with fail
  refine (secondMark_run Y X c _ hE (by omega)).mono ?_
  rintro x v3 ⟨rfl,hb⟩
  replace hB:=hB.trans (hb.mono hB.size)
  clear hb
  go_wp2_with fail
  refine (Same_run V (keyedT 16 c (Y++X)).1 _ (by omega)).mono ?_
  rintro x v4 ⟨rfl,hb⟩
  go_wp2_with fail
  go_ret
  exact ⟨rfl,hB.trans (hb.mono hB.size)⟩
theorem Box_all (k nn:Nat→Int) (m c:ByteArray) (w:World) (hE:Env w) (hk:Byts 32 k) (hn:Byts 24 nn) :
  Calls Tryz.prog 24 #[.agg (WA .u8 32 k),.agg (WA .u8 24 nn),.string m,.string c] w fun e w'=>e=.returned (.tuple #[.string (BoxR k nn m c).1,.int .i64 (BoxR k nn m c).2])∧Below w.heap.size w w':=by
 have hst:=fun u hu=>boxCookie_run k nn m c u hu hk hn
 unfold boxE at hst
 by_cases h1:isWhole m=false
 ·have hR:BoxR k nn m c=(⟨#[]⟩,10):=by unfold BoxR;rw[if_pos h1]
  rw[hR]
  simp only[if_pos h1] at hst
  exact Box_no k nn m c 10 w hE hst
 ·by_cases h2:¬ c.size=16
  ·have hR:BoxR k nn m c=(⟨#[]⟩,1):=by unfold BoxR;rw[if_neg h1,if_pos h2]
   rw[hR]
   simp only[if_neg h1,if_pos h2] at hst
   exact Box_no k nn m c 1 w hE hst
  ·have hR:(BoxR k nn m c).2=0:=by unfold BoxR;rw[if_neg h1,if_neg h2]
   rw[hR]
   simp only[if_neg h1,if_neg h2] at hst
   exact Box_ok k nn m c _ w hE hst
theorem Unbox_all (k:Nat→Int) (mk m:ByteArray) (w:World) (hE:Env w) (hk:Byts 32 k) :
  Calls Tryz.prog 26 #[.agg (WA .u8 32 k),.string mk,.string m] w fun e w'=>e=.returned (.tuple #[.string (UnboxR k mk m).1,.int .i64 (UnboxR k mk m).2])∧Below w.heap.size w w':=by
 have hst:=fun u hu=>unboxCookie_run k mk m u hu hk
 unfold unboxE at hst
 by_cases hs:m.size=64
 ·have hk3:=kind_at m 3 (by omega)
  by_cases ht:m.extract 0 4=⟨#[3,0,0,0]⟩
  ·have hk1:numA m 0 4=3:=hk3.2 ht
   by_cases h16:mk.size=16
   ·have hR:UnboxR k mk m=openT (der (ckK k) (txt (m.extract 8 32))) (tailN fun j=>txt (m.extract 8 32) (16+j)) (m.extract 32 m.size) mk:=by unfold UnboxR;rw[if_neg (not_not_intro hs),if_neg (not_not_intro ht),if_neg (not_not_intro h16)]
    rw[hR]
    simp only[if_neg (not_not_intro (And.intro hs hk1)),if_neg (not_not_intro h16)] at hst
    have h2:=openT_two (der (ckK k) (txt (m.extract 8 32))) (tailN fun j=>txt (m.extract 8 32) (16+j)) (m.extract 32 m.size) mk
    generalize openT (der (ckK k) (txt (m.extract 8 32))) (tailN fun j=>txt (m.extract 8 32) (16+j)) (m.extract 32 m.size) mk=Z at *
    rcases h2 with h | h
    ·simp only[if_pos h] at hst
     rw[h]
     exact Unbox_ok k mk m _ w hE hst
    ·subst h
     simp only[if_neg (show ¬ (13:Int)=0 by decide)] at hst
     exact Unbox_no k mk m 13 w hE hst
   ·have hR:UnboxR k mk m=(⟨#[]⟩,1):=by unfold UnboxR;rw[if_neg (not_not_intro hs),if_neg (not_not_intro ht),if_pos h16]
    rw[hR]
    simp only[if_neg (not_not_intro (And.intro hs hk1)),if_pos h16] at hst
    exact Unbox_no k mk m 1 w hE hst
  ·have hR:UnboxR k mk m=(⟨#[]⟩,11):=by unfold UnboxR;rw[if_neg (not_not_intro hs),if_pos ht]
   rw[hR]
   have hn:¬ (m.size=64∧numA m 0 4=3):=fun h=>ht (hk3.1 h.2)
   simp only[if_pos hn,if_pos hs] at hst
   exact Unbox_no k mk m 11 w hE hst
 ·have hR:UnboxR k mk m=(⟨#[]⟩,10):=by unfold UnboxR;rw[if_pos hs]
  rw[hR]
  have hn:¬ (m.size=64∧numA m 0 4=3):=fun h=>hs h.1
  simp only[if_pos hn,if_neg hs] at hst
  exact Unbox_no k mk m 10 w hE hst
theorem enterMrd (args:Array Value) (w:World):(callFunc 20 args).run Tryz.prog w=.ok (.enter 20 args) w:=by kernel_rfl
theorem enterMrdR (args:Array Value) (w:World):(callFunc 28 args).run Tryz.prog w=.ok (.enter 28 args) w:=by kernel_rfl
theorem enterCkd (args:Array Value) (w:World):(callFunc 29 args).run Tryz.prog w=.ok (.enter 29 args) w:=by kernel_rfl
theorem enterCkdR (args:Array Value) (w:World):(callFunc 30 args).run Tryz.prog w=.ok (.enter 30 args) w:=by kernel_rfl
theorem enterUbx (args:Array Value) (w:World):(callFunc 26 args).run Tryz.prog w=.ok (.enter 26 args) w:=by kernel_rfl
def mrsV (T Sc Nn:Nat→Int) (v:Bool) (B:Nat→Int) (p:Int) (m c:ByteArray) (i:Nat):Value:=if i<32 then .int .u8 (T i) else if i<64 then .int .u8 (Sc (i-32)) else if i<88 then .int .u8 (Nn (i-64)) else if i<106 then endV v B p (i-88) else if i<107 then .string m else .string c
section
variable {w:World} {b:Nat} {T Sc Nn:Nat→Int} {v:Bool} {B:Nat→Int} {p:Int} {m c:ByteArray}
theorem mrs_t (h:SAt w b 60 108 (mrsV T Sc Nn v B p m c)):w.rangeAt b 0 (nums .u8 32 T):=h.range (by omega) (fun j hj=>by unfold mrsV;rw[Nat.zero_add,if_pos hj])
theorem mrs_s (h:SAt w b 60 108 (mrsV T Sc Nn v B p m c)):w.rangeAt b 32 (nums .u8 32 Sc):=h.range (by omega) (fun j hj=>by unfold mrsV;rw[if_neg (by omega),if_pos (by omega),Nat.add_sub_cancel_left])
theorem mrs_n (h:SAt w b 60 108 (mrsV T Sc Nn v B p m c)):w.rangeAt b 64 (nums .u8 24 Nn):=h.range (by omega) (fun j hj=>by unfold mrsV;rw[if_neg (by omega),if_neg (by omega),if_pos (by omega),Nat.add_sub_cancel_left])
theorem mrs_e (h:SAt w b 60 108 (mrsV T Sc Nn v B p m c)):w.rangeAt b 88 ((List.range 18).map (endV v B p)):=fun j u hj=>by
 rw[List.getElem?_map] at hj
 have hl:j<18:=by
  by_cases hl:j<18
  ·exact hl
  ·rw[List.getElem?_eq_none (by simp;omega)] at hj
   cases hj
 rw[List.getElem?_range hl] at hj
 cases hj
 rw[h.at (88+j) (by omega)]
 unfold mrsV
 rw[if_neg (by omega),if_neg (by omega),if_neg (by omega),if_pos (by omega),Nat.add_sub_cancel_left]
theorem mrs_m (h:SAt w b 60 108 (mrsV T Sc Nn v B p m c)):w.cell? ⟨b,106,none⟩=some (.string m):=h.at 106 (by omega)
theorem mrs_c (h:SAt w b 60 108 (mrsV T Sc Nn v B p m c)):w.cell? ⟨b,107,none⟩=some (.string c):=h.at 107 (by omega)
end
theorem exec_ldend {a:Act} {o:Oper} {w:World} {x:Operand} {b f:Nat} {V:Nat→Value} (ho:o.op=.load 58 x) (hx:a.eval x=.pointer (some ⟨b,f,none⟩)) (hr:w.rangeAt b f ((List.range 18).map V)):(execOp a.eval o).run Tryz.prog w=.ok (.value (.agg (SC 18 V))) w :=
 exec_ld ho hx (run_loadAt_mid (P:=Tryz.prog) w b f 58 ((List.range 18).map V) _ hr Tryz.underlying58 rfl (by rw[List.length_map,List.length_range];kernel_rfl))
theorem exec_subQ {a:Act} {o:Oper} {w:World} {x y:Operand} (ho:o.op=.binOp .sub 3 x y 3) {m n q:Int} (hx:a.eval x=.int .i64 m) (hy:a.eval y=.int .i64 n) (h:m-n=q∧-9223372036854775808≤q∧q<9223372036854775808):(execOp a.eval o).run Tryz.prog w=.ok (.value (.int .i64 q)) w :=
 exec_bin2 ho hx hy rfl (by simp[go_sem,h.1,i64_wrap h.2.1 h.2.2])
theorem run_fmk (b k:Nat) (w:World):k<6→(Instr.fieldAt 60 (.pointer (some ⟨b,0,none⟩)) k).run Tryz.prog w=.ok (.pointer (some ⟨b,[0,32,64,88,106,107].getD k 0,none⟩)) w:=by
 intro hk
 match k,hk with
 | 0,_=>simp[go_sem]
 | 1,_=>simp[go_sem]
 | 2,_=>simp[go_sem]
 | 3,_=>simp[go_sem]
 | 4,_=>simp[go_sem]
 | 5,_=>simp[go_sem]
theorem exec_fmk {a:Act} {o:Oper} {w:World} {x:Operand} {k:Nat} (ho:o.op=.fieldAddr 60 x k) {b:Nat} (hx:a.eval x=.pointer (some ⟨b,0,none⟩)) (hk:k<6):(execOp a.eval o).run Tryz.prog w=.ok (.value (.pointer (some ⟨b,[0,32,64,88,106,107].getD k 0,none⟩))) w:=by
 have h:=run_fmk b k w hk
 unfold execOp
 simp only[ho,hx,Sem.run_bind,h,Result.andThen_ok,Sem.run_pure]
theorem marks_gen (T Sc Nn:Nat→Int) (v:Bool) (B:Nat→Int) (p:Int) (m c t:ByteArray) (M K X U Y:ByteArray) (eM eX eU:Int) (z1 z2:Bool) (w:World) (hE:Env w) (hKs:K.size=16)
  (hM:∀ u,Env u→Calls Tryz.prog 19 #[.string m,.agg (WA .u8 32 T),.string c] u fun e w'=>e=.returned (.tuple #[.string M,.int .i64 eM])∧Below u.heap.size u w')
  (hK:∀ u,Env u→Calls Tryz.prog 22 #[.agg (WA .u8 32 Sc),.agg (SC 18 (endV v B p))] u fun e w'=>e=.returned (.string K)∧Below u.heap.size u w')
  (hX:∀ u,Env u→Calls Tryz.prog 24 #[.agg (WA .u8 32 T),.agg (WA .u8 24 Nn),.string t,.string c] u fun e w'=>e=.returned (.tuple #[.string X,.int .i64 eX])∧Below u.heap.size u w')
  (hU:∀ u,Env u→Calls Tryz.prog 26 #[.agg (WA .u8 32 T),.string c,.string t] u fun e w'=>e=.returned (.tuple #[.string U,.int .i64 eU])∧Below u.heap.size u w')
  (hD:∀ u,Env u→Calls Tryz.prog 20 #[.string t,.agg (WA .u8 32 T)] u fun e w'=>e=.returned (.bool z1)∧Below u.heap.size u w')
  (hC:∀ u,Env u→Calls Tryz.prog 29 #[.string t,.string c] u fun e w'=>e=.returned (.bool z2)∧Below u.heap.size u w')
  (hMr:∀ u,Env u→Calls Tryz.prog 21 #[.string m,.agg (WA .u8 32 T),.string c] u fun e w'=>e=.returned (.tuple #[.string M,.int .i64 eM])∧Below u.heap.size u w')
  (hKr:∀ u,Env u→Calls Tryz.prog 23 #[.agg (WA .u8 32 Sc),.agg (SC 18 (endV v B p))] u fun e w'=>e=.returned (.string K)∧Below u.heap.size u w')
  (hXr:∀ u,Env u→Calls Tryz.prog 25 #[.agg (WA .u8 32 T),.agg (WA .u8 24 Nn),.string t,.string c] u fun e w'=>e=.returned (.tuple #[.string X,.int .i64 eX])∧Below u.heap.size u w')
  (hUr:∀ u,Env u→Calls Tryz.prog 27 #[.agg (WA .u8 32 T),.string c,.string t] u fun e w'=>e=.returned (.tuple #[.string U,.int .i64 eU])∧Below u.heap.size u w')
  (hDr:∀ u,Env u→Calls Tryz.prog 28 #[.string t,.agg (WA .u8 32 T)] u fun e w'=>e=.returned (.bool z1)∧Below u.heap.size u w')
  (hCr:∀ u,Env u→Calls Tryz.prog 30 #[.string t,.string c] u fun e w'=>e=.returned (.bool z2)∧Below u.heap.size u w')
  (hs:eM=0→M.size=148∨M.size=92)
  (hY:eM=0→∀ u,Env u→Calls Tryz.prog 24 #[.agg (WA .u8 32 T),.agg (WA .u8 24 Nn),.string M,.string K] u fun e w'=>e=.returned (.tuple #[.string Y,.int .i64 0])∧Below u.heap.size u w')
  (hZ:eM=0→∀ u,Env u→Calls Tryz.prog 26 #[.agg (WA .u8 32 T),.string (M.extract (M.size-32) (M.size-32+16)),.string Y] u fun e w'=>e=.returned (.tuple #[.string K,.int .i64 0])∧Below u.heap.size u w')
  (hMM:eM=0→∀ u,Env u→Calls Tryz.prog 20 #[.string M,.agg (WA .u8 32 T)] u fun e w'=>e=.returned (.bool true)∧Below u.heap.size u w')
  (hMC:eM=0→¬ c=⟨#[]⟩→∀ u,Env u→Calls Tryz.prog 29 #[.string M,.string c] u fun e w'=>e=.returned (.bool true)∧Below u.heap.size u w') :
  Calls Tryz.prog 6 #[.agg (SC 108 (mrsV T Sc Nn v B p m c)),.string t] w fun e w'=>e=.returned (.bool true)∧Below w.heap.size w w':=by
 have hB:Below w.heap.size w (w.alloc (.cells (SC 108 (mrsV T Sc Nn v B p m c)) 60)):=(Below.refl _ w).alloc (by simp) _
 have k0:SAt (w.alloc (.cells (SC 108 (mrsV T Sc Nn v B p m c)) 60)) w.heap.size 60 108 (mrsV T Sc Nn v B p m c):=heap_alloc_new w _
 replace hE:=hE.kept hB
 have hKI:(K.size:Int)=16:=by omega
 go_enter Tryz.func6,Tryz.ntmps6
 go_wp2_with fail
 refine (awake7_run _ hE).mono ?_
 rintro x v1 ⟨rfl,hb⟩
 replace k0:=k0.kept hb
 replace hE:=hE.kept hb
 replace hB:=hB.trans (hb.mono hB.size)
 clear hb
 have rT:=mrs_t k0
 have rS:=mrs_s k0
 have rN:=mrs_n k0
 have rE:=mrs_e k0
 have cm:=mrs_m k0
 have cc:=mrs_c k0
 go_wp2_with (first|(refine wl_value rfl (exec_ldmid rfl isArr32 (by rfl) rT) ?_)|(refine wl_value rfl (exec_ldmid rfl isArr32 (by rfl) rS) ?_)|(refine wl_value rfl (exec_ldmid rfl isArr24 (by rfl) rN) ?_)|(refine wl_value rfl (exec_ldend rfl (by rfl) rE) ?_))
 refine (hM _ hE).mono ?_
 rintro x v2 ⟨rfl,hb⟩
 replace k0:=k0.kept hb
 replace hE:=hE.kept hb
 replace hB:=hB.trans (hb.mono hB.size)
 clear hb
 clear rT rS rN rE cm cc
 have rT:=mrs_t k0
 have rS:=mrs_s k0
 have rN:=mrs_n k0
 have rE:=mrs_e k0
 have cm:=mrs_m k0
 have cc:=mrs_c k0
 go_wp2_with (first|(refine wl_value rfl (exec_ldmid rfl isArr32 (by rfl) rT) ?_)|(refine wl_value rfl (exec_ldmid rfl isArr32 (by rfl) rS) ?_)|(refine wl_value rfl (exec_ldmid rfl isArr24 (by rfl) rN) ?_)|(refine wl_value rfl (exec_ldend rfl (by rfl) rE) ?_))
 refine (hMr _ hE).mono ?_
 rintro x v3 ⟨rfl,hb⟩
 replace k0:=k0.kept hb
 replace hE:=hE.kept hb
 replace hB:=hB.trans (hb.mono hB.size)
 clear hb
 clear rT rS rN rE cm cc
 have rT:=mrs_t k0
 have rS:=mrs_s k0
 have rN:=mrs_n k0
 have rE:=mrs_e k0
 have cm:=mrs_m k0
 have cc:=mrs_c k0
 go_wp2_with (first|(refine wl_value rfl (exec_ldmid rfl isArr32 (by rfl) rT) ?_)|(refine wl_value rfl (exec_ldmid rfl isArr32 (by rfl) rS) ?_)|(refine wl_value rfl (exec_ldmid rfl isArr24 (by rfl) rN) ?_)|(refine wl_value rfl (exec_ldend rfl (by rfl) rE) ?_))
 refine (hK _ hE).mono ?_
 rintro x v4 ⟨rfl,hb⟩
 replace k0:=k0.kept hb
 replace hE:=hE.kept hb
 replace hB:=hB.trans (hb.mono hB.size)
 clear hb
 clear rT rS rN rE cm cc
 have rT:=mrs_t k0
 have rS:=mrs_s k0
 have rN:=mrs_n k0
 have rE:=mrs_e k0
 have cm:=mrs_m k0
 have cc:=mrs_c k0
 go_wp2_with (first|(refine wl_value rfl (exec_ldmid rfl isArr32 (by rfl) rT) ?_)|(refine wl_value rfl (exec_ldmid rfl isArr32 (by rfl) rS) ?_)|(refine wl_value rfl (exec_ldmid rfl isArr24 (by rfl) rN) ?_)|(refine wl_value rfl (exec_ldend rfl (by rfl) rE) ?_))
 refine (hKr _ hE).mono ?_
 rintro x v5 ⟨rfl,hb⟩
 replace k0:=k0.kept hb
 replace hE:=hE.kept hb
 replace hB:=hB.trans (hb.mono hB.size)
 clear hb
 clear rT rS rN rE cm cc
 have rT:=mrs_t k0
 have rS:=mrs_s k0
 have rN:=mrs_n k0
 have rE:=mrs_e k0
 have cm:=mrs_m k0
 have cc:=mrs_c k0
 go_wp2_with (first|(refine wl_value rfl (exec_ldmid rfl isArr32 (by rfl) rT) ?_)|(refine wl_value rfl (exec_ldmid rfl isArr32 (by rfl) rS) ?_)|(refine wl_value rfl (exec_ldmid rfl isArr24 (by rfl) rN) ?_)|(refine wl_value rfl (exec_ldend rfl (by rfl) rE) ?_))
 refine (hX _ hE).mono ?_
 rintro x v6 ⟨rfl,hb⟩
 replace k0:=k0.kept hb
 replace hE:=hE.kept hb
 replace hB:=hB.trans (hb.mono hB.size)
 clear hb
 clear rT rS rN rE cm cc
 have rT:=mrs_t k0
 have rS:=mrs_s k0
 have rN:=mrs_n k0
 have rE:=mrs_e k0
 have cm:=mrs_m k0
 have cc:=mrs_c k0
 go_wp2_with (first|(refine wl_value rfl (exec_ldmid rfl isArr32 (by rfl) rT) ?_)|(refine wl_value rfl (exec_ldmid rfl isArr32 (by rfl) rS) ?_)|(refine wl_value rfl (exec_ldmid rfl isArr24 (by rfl) rN) ?_)|(refine wl_value rfl (exec_ldend rfl (by rfl) rE) ?_))
 refine (hXr _ hE).mono ?_
 rintro x v7 ⟨rfl,hb⟩
 replace k0:=k0.kept hb
 replace hE:=hE.kept hb
 replace hB:=hB.trans (hb.mono hB.size)
 clear hb
 clear rT rS rN rE cm cc
 have rT:=mrs_t k0
 have rS:=mrs_s k0
 have rN:=mrs_n k0
 have rE:=mrs_e k0
 have cm:=mrs_m k0
 have cc:=mrs_c k0
 go_wp2_with (first|(refine wl_value rfl (exec_ldmid rfl isArr32 (by rfl) rT) ?_)|(refine wl_value rfl (exec_ldmid rfl isArr32 (by rfl) rS) ?_)|(refine wl_value rfl (exec_ldmid rfl isArr24 (by rfl) rN) ?_)|(refine wl_value rfl (exec_ldend rfl (by rfl) rE) ?_))
 refine (hU _ hE).mono ?_
 rintro x v8 ⟨rfl,hb⟩
 replace k0:=k0.kept hb
 replace hE:=hE.kept hb
 replace hB:=hB.trans (hb.mono hB.size)
 clear hb
 clear rT rS rN rE cm cc
 have rT:=mrs_t k0
 have rS:=mrs_s k0
 have rN:=mrs_n k0
 have rE:=mrs_e k0
 have cm:=mrs_m k0
 have cc:=mrs_c k0
 go_wp2_with (first|(refine wl_value rfl (exec_ldmid rfl isArr32 (by rfl) rT) ?_)|(refine wl_value rfl (exec_ldmid rfl isArr32 (by rfl) rS) ?_)|(refine wl_value rfl (exec_ldmid rfl isArr24 (by rfl) rN) ?_)|(refine wl_value rfl (exec_ldend rfl (by rfl) rE) ?_))
 refine (hUr _ hE).mono ?_
 rintro x v9 ⟨rfl,hb⟩
 replace k0:=k0.kept hb
 replace hE:=hE.kept hb
 replace hB:=hB.trans (hb.mono hB.size)
 clear hb
 clear rT rS rN rE cm cc
 go_wp2_with fail
 have HD:=Hid.mk hD
 have HDr:=Hid.mk hDr
 have HC:=Hid.mk hC
 have HCr:=Hid.mk hCr
 have HK0:Hid (∀ u,Below v9.heap.size v9 u→SAt u w.heap.size 60 108 (mrsV T Sc Nn v B p m c)):=Hid.mk (fun u hu=>k0.kept hu)
 have HEN:Hid (∀ u,Below v9.heap.size v9 u→Env u):=Hid.mk (fun u hu=>hE.kept hu)
 refine wp_region3 (Below v9.heap.size v9) v9.heap.size
   ([]:List (Nat×Cont))
   (kv (.string X)::kv (.string X)::kv (.bool false)::kv (.bool false)::kv (.int .i64 eX)::kv (.int .i64 eX)::kv (.bool false)::kv (.bool false)::kv (.bool false)::kv (.string U)::kv (.string U)::kv (.bool false)::kv (.bool false)::kv (.bool false)::kv (.int .i64 eU)::kv (.int .i64 eU)::kv (.bool false)::kv (.bool false)::kv (.bool false)::kv (.string t)::kv (.pointer (some ⟨w.heap.size,0,none⟩))::kv (.agg (WA .u8 32 T))::kv (.bool z1)::kv (.string t)::kv (.pointer (some ⟨w.heap.size,0,none⟩))::kv (.agg (WA .u8 32 T))::kv (.bool z1)::kv (.bool false)::kv (.bool false)::kv (.bool false)::kv (.string t)::kv (.pointer (some ⟨w.heap.size,107,none⟩))::kv (.string c)::kv (.bool z2)::kv (.string t)::kv (.pointer (some ⟨w.heap.size,107,none⟩))::kv (.string c)::kv (.bool z2)::kv (.bool false)::kv (.bool false)::[])
   (.none::.none::.none::.none::.none::.none::.none::.none::.none::.none::.none::.none::.none::.none::.none::.none::.none::.none::.none::.none::.none::.none::.none::.none::.none::.none::.none::.none::.none::.none::.none::.none::.none::.none::.none::.none::.none::.none::.none::.none::[])
   (some 111::some 112::some 113::some 114::some 115::some 116::some 117::some 118::some 119::some 120::some 121::some 122::some 123::some 124::some 125::some 126::some 127::some 128::some 129::some 130::some 131::some 132::some 133::some 134::some 135::some 136::some 137::some 138::some 139::some 140::some 141::some 142::some 143::some 144::some 145::some 146::some 147::some 148::some 149::some 150::[])
   [(11,.string X),(13,.string X),(12,.int .i64 eX),(14,.int .i64 eX),(15,.string U),(17,.string U),(16,.int .i64 eU),(18,.int .i64 eU),(1,.string t),(2,.pointer (some ⟨w.heap.size,0,none⟩))]
   ([]::[]::[.slot 0,.slot 1]::[.slot 2]::[.slot 3]::[.slot 3]::[.slot 3,.slot 4,.slot 5]::[.slot 3,.slot 6]::[.slot 7]::[.slot 8]::[.slot 8]::[.slot 8,.slot 9,.slot 10]::[.slot 8,.slot 11]::[.slot 12]::[.slot 13]::[.slot 13]::[.slot 13,.slot 14,.slot 15]::[.slot 13,.slot 16]::[.slot 17]::[.slot 18]::[.slot 18]::[.slot 18,.slot 20]::[.slot 18,.slot 19,.slot 21]::[.slot 18]::[.slot 18]::[.slot 18,.slot 24]::[.slot 18,.slot 23,.slot 25]::[.slot 18,.slot 22,.slot 26]::[.slot 18,.slot 27]::[.slot 28]::[.slot 29]::[.slot 29]::[.slot 29,.slot 31]::[.slot 29,.slot 30,.slot 32]::[.slot 29]::[.slot 29]::[.slot 29,.slot 35]::[.slot 29,.slot 34,.slot 36]::[.slot 29,.slot 33,.slot 37]::[.slot 29,.slot 38]::[])
   [.slot 39] (111::112::113::114::115::116::117::118::119::120::121::122::123::124::125::126::127::128::129::130::131::132::133::134::135::136::137::138::139::140::141::142::143::144::145::146::147::148::149::150::[])
   rfl (by kernel_rfl) ⟨rfl,rfl,rfl,rfl,rfl,rfl,rfl,rfl,rfl,rfl,trivial⟩ (Below.refl _ v9).drew (Nat.le_refl _) trivial trivial (below_G (Nat.le_refl _) trivial)
   ⟨
    (fun _ _ _ _ _ _ fr _=>sV (exec_move rfl fr.1)),
    (fun _ _ _ _ _ _ fr _=>sV (exec_move rfl fr.2.1)),
    (fun _ _ _ _ _ _ _ kn=>sV (exec_neqS rfl kn.1 kn.2.1 rfl)),
    (fun _ _ _ _ _ _ _ kn=>sV (exec_move rfl kn.1)),
    (fun _ _ _ _ _ _ fr kn=>sG kn.1 (exec_move rfl fr.2.2.1)),
    (fun _ _ _ _ _ _ fr kn=>sG kn.1 (exec_move rfl fr.2.2.2.1)),
    (fun _ _ _ _ _ _ _ kn=>sG kn.1 (exec_bin2 (V:=.bool false) rfl kn.2.1 kn.2.2.1 rfl (by simp[go_sem]))),
    (fun _ _ _ _ _ _ _ kn=>sV (exec_pickF rfl kn.1 kn.2.1)),
    (fun _ _ _ _ _ _ _ kn=>sV (exec_move rfl kn.1)),
    (fun _ _ _ _ _ _ fr kn=>sG kn.1 (exec_move rfl fr.2.2.2.2.1)),
    (fun _ _ _ _ _ _ fr kn=>sG kn.1 (exec_move rfl fr.2.2.2.2.2.1)),
    (fun _ _ _ _ _ _ _ kn=>sG kn.1 (exec_neqS rfl kn.2.1 kn.2.2.1 rfl)),
    (fun _ _ _ _ _ _ _ kn=>sV (exec_pickF rfl kn.1 kn.2.1)),
    (fun _ _ _ _ _ _ _ kn=>sV (exec_move rfl kn.1)),
    (fun _ _ _ _ _ _ fr kn=>sG kn.1 (exec_move rfl fr.2.2.2.2.2.2.1)),
    (fun _ _ _ _ _ _ fr kn=>sG kn.1 (exec_move rfl fr.2.2.2.2.2.2.2.1)),
    (fun _ _ _ _ _ _ _ kn=>sG kn.1 (exec_bin2 (V:=.bool false) rfl kn.2.1 kn.2.2.1 rfl (by simp[go_sem]))),
    (fun _ _ _ _ _ _ _ kn=>sV (exec_pickF rfl kn.1 kn.2.1)),
    (fun _ _ _ _ _ _ _ kn=>sV (exec_move rfl kn.1)),
    (fun _ _ _ _ _ _ fr kn=>sG kn.1 (exec_move rfl fr.2.2.2.2.2.2.2.2.1)),
    (fun _ _ _ _ _ _ fr kn=>sG kn.1 (exec_fmk (k:=0) rfl fr.2.2.2.2.2.2.2.2.2.1 (by decide))),
    (fun _ _ ww _ hS _ _ kn=>sG kn.1 (exec_ldmid rfl isArr32 kn.2.1 (mrs_t (HK0.out ww hS)))),
    (fun _ _ ww _ hS _ _ kn=>.inl ⟨kn.1,fun K hK=>stepc enterMrd rfl (args2 kn.2.1 kn.2.2.1) (HD.out ww (HEN.out ww hS)) (fun w' hb=>hK _ _ ⟨touch_below hb,rfl⟩)⟩),
    (fun _ _ _ _ _ _ fr kn=>sG kn.1 (exec_move rfl fr.2.2.2.2.2.2.2.2.1)),
    (fun _ _ _ _ _ _ fr kn=>sG kn.1 (exec_fmk (k:=0) rfl fr.2.2.2.2.2.2.2.2.2.1 (by decide))),
    (fun _ _ ww _ hS _ _ kn=>sG kn.1 (exec_ldmid rfl isArr32 kn.2.1 (mrs_t (HK0.out ww hS)))),
    (fun _ _ ww _ hS _ _ kn=>.inl ⟨kn.1,fun K hK=>stepc enterMrdR rfl (args2 kn.2.1 kn.2.2.1) (HDr.out ww (HEN.out ww hS)) (fun w' hb=>hK _ _ ⟨touch_below hb,rfl⟩)⟩),
    (fun _ _ _ _ _ _ _ kn=>sG kn.1 (exec_neb (p:=z1) (q:=z1) (z:=false) rfl kn.2.1 kn.2.2.1 (bne_self_eq_false z1))),
    (fun _ _ _ _ _ _ _ kn=>sV (exec_pickF rfl kn.1 kn.2.1)),
    (fun _ _ _ _ _ _ _ kn=>sV (exec_move rfl kn.1)),
    (fun _ _ _ _ _ _ fr kn=>sG kn.1 (exec_move rfl fr.2.2.2.2.2.2.2.2.1)),
    (fun _ _ _ _ _ _ fr kn=>sG kn.1 (exec_fmk (k:=5) rfl fr.2.2.2.2.2.2.2.2.2.1 (by decide))),
    (fun _ _ ww _ hS _ _ kn=>sG kn.1 (exec_ld rfl kn.2.1 (load_str (mrs_c (HK0.out ww hS))))),
    (fun _ _ ww _ hS _ _ kn=>.inl ⟨kn.1,fun K hK=>stepc enterCkd rfl (args2 kn.2.1 kn.2.2.1) (HC.out ww (HEN.out ww hS)) (fun w' hb=>hK _ _ ⟨touch_below hb,rfl⟩)⟩),
    (fun _ _ _ _ _ _ fr kn=>sG kn.1 (exec_move rfl fr.2.2.2.2.2.2.2.2.1)),
    (fun _ _ _ _ _ _ fr kn=>sG kn.1 (exec_fmk (k:=5) rfl fr.2.2.2.2.2.2.2.2.2.1 (by decide))),
    (fun _ _ ww _ hS _ _ kn=>sG kn.1 (exec_ld rfl kn.2.1 (load_str (mrs_c (HK0.out ww hS))))),
    (fun _ _ ww _ hS _ _ kn=>.inl ⟨kn.1,fun K hK=>stepc enterCkdR rfl (args2 kn.2.1 kn.2.2.1) (HCr.out ww (HEN.out ww hS)) (fun w' hb=>hK _ _ ⟨touch_below hb,rfl⟩)⟩),
    (fun _ _ _ _ _ _ _ kn=>sG kn.1 (exec_neb (p:=z2) (q:=z2) (z:=false) rfl kn.2.1 kn.2.2.1 (bne_self_eq_false z2))),
    (fun _ _ _ _ _ _ _ kn=>sV (exec_pickF rfl kn.1 kn.2.1)),
    trivial⟩ ?_
 intro vs own v10 hb hs1 kn inj
 clear inj hs1 HK0 HEN HD HDr HC HCr
 have e150:vs 150=_:=kn.1
 clear kn
 replace k0:=k0.kept hb
 replace hE:=hE.kept hb
 replace hB:=hB.trans (hb.mono hB.size)
 clear hb
 simp only[putAll,Act.put,List.setIfInBounds_toArray,List.set_cons_zero,List.set_cons_succ,e150]
 by_cases h0:eM=0
 case neg =>
  go_wp2_with fail
  go_ret
  exact ⟨rfl,hB⟩
 replace hs:=hs h0
 replace hY:=hY h0
 replace hZ:=hZ h0
 replace hMM:=hMM h0
 replace hMC:=hMC h0
 subst h0
 have rT:=mrs_t k0
 have rS:=mrs_s k0
 have rN:=mrs_n k0
 have rE:=mrs_e k0
 have cm:=mrs_m k0
 have cc:=mrs_c k0
 go_wp2_with (first|(refine wl_value rfl (exec_ldmid rfl isArr32 (by rfl) rT) ?_)|(refine wl_value rfl (exec_ldmid rfl isArr32 (by rfl) rS) ?_)|(refine wl_value rfl (exec_ldmid rfl isArr24 (by rfl) rN) ?_)|(refine wl_value rfl (exec_ldend rfl (by rfl) rE) ?_))
 refine (hY _ hE).mono ?_
 rintro x v11 ⟨rfl,hb⟩
 replace k0:=k0.kept hb
 replace hE:=hE.kept hb
 replace hB:=hB.trans (hb.mono hB.size)
 clear hb
 clear rT rS rN rE cm cc
 have HSL:Hid (∀ ww:World,(Instr.sliceAt 9 (.string M) (some (.int .i64 ((M.size-32:Nat):Int))) (some (.int .i64 ((M.size-32+16:Nat):Int))) none).run Tryz.prog ww=.ok (.string (M.extract (M.size-32) (M.size-32+16))) ww):=Hid.mk (fun ww=>strLH M (M.size-32) (M.size-32+16) ww (by omega) (by omega))
 have HL1:Hid ((M.size:Int)-32=((M.size-32:Nat):Int)∧-9223372036854775808≤((M.size-32:Nat):Int)∧((M.size-32:Nat):Int)<9223372036854775808):=Hid.mk (by omega)
 have HL2:Hid ((M.size:Int)-16=((M.size-32+16:Nat):Int)∧-9223372036854775808≤((M.size-32+16:Nat):Int)∧((M.size-32+16:Nat):Int)<9223372036854775808):=Hid.mk (by omega)
 generalize M.extract (M.size-32) (M.size-32+16)=mk at *
 generalize ((M.size-32:Nat):Int)=n1 at *
 generalize ((M.size-32+16:Nat):Int)=n2 at *
 go_wp2_with fail
 have HZ:=Hid.mk hZ
 have HK0:Hid (∀ u,Below v11.heap.size v11 u→SAt u w.heap.size 60 108 (mrsV T Sc Nn v B p m c)):=Hid.mk (fun u hu=>k0.kept hu)
 have HEN:Hid (∀ u,Below v11.heap.size v11 u→Env u):=Hid.mk (fun u hu=>hE.kept hu)
 refine wp_region3 (Below v11.heap.size v11) v11.heap.size
   ([]:List (Nat×Cont))
   [kv (.pointer (some ⟨w.heap.size,0,none⟩)),kv (.agg (WA .u8 32 T)),kv (.string M),kv (.string M),kv (.int .i64 (M.size:Int)),kv (.int .i64 n1),kv (.string M),kv (.int .i64 (M.size:Int)),kv (.int .i64 n2),kv (.string mk),kv (.string Y),kv (.tuple #[.string K,.int .i64 0]),kv (.tuple #[.string K,.int .i64 0]),kv (.string K),kv (.int .i64 0),kv (.string K),kv (.int .i64 0)]
   [.none,.none,.none,.none,.none,.none,.none,.none,.none,.none,.none,.none,.none,.none,.none,.none,.none]
   [some 165,some 166,some 167,some 168,some 169,some 170,some 171,some 172,some 173,some 174,some 175,some 176,some 164,some 177,some 178,some 21,some 22]
   [(2,.pointer (some ⟨w.heap.size,0,none⟩)),(6,.string M),(19,.string Y)]
   [[],[.slot 0],[],[],[.slot 3],[.slot 4],[],[.slot 6],[.slot 7],[.slot 2,.slot 5,.slot 8],[],[.slot 1,.slot 9,.slot 10],[.slot 11],[.slot 12],[.slot 12],[.slot 13],[.slot 14]]
   [.slot 15,.slot 16] [165,166,167,168,169,170,171,172,173,174,175,176,164,177,178,21,22]
   rfl (by kernel_rfl) ⟨rfl,rfl,rfl,trivial⟩ (Below.refl _ v11).drew (Nat.le_refl _) trivial trivial (below_G (Nat.le_refl _) trivial)
   ⟨
    (fun _ _ _ _ _ _ fr _=>sV (exec_fmk (k:=0) rfl fr.1 (by decide))),
    (fun _ _ ww _ hS _ _ kn=>sV (exec_ldmid rfl isArr32 kn.1 (mrs_t (HK0.out ww hS)))),
    (fun _ _ _ _ _ _ fr _=>sV (exec_move rfl fr.2.1)),
    (fun _ _ _ _ _ _ fr _=>sV (exec_move rfl fr.2.1)),
    (fun _ _ _ _ _ _ _ kn=>sV (exec_lenS rfl kn.1)),
    (fun _ _ _ _ _ _ _ kn=>sV (exec_subQ rfl kn.1 rfl HL1.out)),
    (fun _ _ _ _ _ _ fr _=>sV (exec_move rfl fr.2.1)),
    (fun _ _ _ _ _ _ _ kn=>sV (exec_lenS rfl kn.1)),
    (fun _ _ _ _ _ _ _ kn=>sV (exec_subQ rfl kn.1 rfl HL2.out)),
    (fun _ _ ww _ _ _ _ kn=>sV (exec_slLH rfl kn.1 kn.2.1 kn.2.2.1 (HSL.out ww))),
    (fun _ _ _ _ _ _ fr _=>sV (exec_move rfl fr.2.2.1)),
    (fun _ _ ww _ hS _ _ kn=>.inl ⟨trivial,fun K hK=>stepc enterUbx rfl (args3 kn.1 kn.2.1 kn.2.2.1) (HZ.out ww (HEN.out ww hS)) (fun w' hb=>hK _ _ ⟨touch_below hb,rfl⟩)⟩),
    (fun _ _ _ _ _ _ _ kn=>sV (exec_move rfl kn.1)),
    (fun _ _ _ _ _ _ _ kn=>sV (exec_ext rfl kn.1 rfl)),
    (fun _ _ _ _ _ _ _ kn=>sV (exec_ext rfl kn.1 rfl)),
    (fun _ _ _ _ _ _ _ kn=>sV (exec_assign rfl kn.1)),
    (fun _ _ _ _ _ _ _ kn=>sV (exec_assign rfl kn.1)),
    trivial⟩ ?_
 intro vs2 own2 v12 hb hs1 kn inj
 clear inj hs1 HK0 HEN HZ
 obtain ⟨e21,e22,-⟩:=kn
 change vs2 21=_ at e21
 change vs2 22=_ at e22
 replace k0:=k0.kept hb
 replace hE:=hE.kept hb
 replace hB:=hB.trans (hb.mono hB.size)
 clear hb
 simp only[putAll,Act.put,List.setIfInBounds_toArray,List.set_cons_zero,List.set_cons_succ,e21,e22]
 have rT:=mrs_t k0
 have rS:=mrs_s k0
 have rN:=mrs_n k0
 have rE:=mrs_e k0
 have cm:=mrs_m k0
 have cc:=mrs_c k0
 go_wp2_with (first|(refine wl_value rfl (exec_ldmid rfl isArr32 (by rfl) rT) ?_)|(refine wl_value rfl (exec_ldmid rfl isArr32 (by rfl) rS) ?_)|(refine wl_value rfl (exec_ldmid rfl isArr24 (by rfl) rN) ?_)|(refine wl_value rfl (exec_ldend rfl (by rfl) rE) ?_))
 refine (hMM _ hE).mono ?_
 rintro x v13 ⟨rfl,hb⟩
 replace k0:=k0.kept hb
 replace hE:=hE.kept hb
 replace hB:=hB.trans (hb.mono hB.size)
 clear hb
 clear rT rS rN rE cm cc
 by_cases hc0:c=⟨#[]⟩
 ·have rT:=mrs_t k0
  have rS:=mrs_s k0
  have rN:=mrs_n k0
  have rE:=mrs_e k0
  have cm:=mrs_m k0
  have cc:=mrs_c k0
  go_wp2_with (first|(refine wl_value rfl (exec_ldmid rfl isArr32 (by rfl) rT) ?_)|(refine wl_value rfl (exec_ldmid rfl isArr32 (by rfl) rS) ?_)|(refine wl_value rfl (exec_ldmid rfl isArr24 (by rfl) rN) ?_)|(refine wl_value rfl (exec_ldend rfl (by rfl) rE) ?_)|(refine wl_value rfl (exec_eqSx rfl (by rfl) (by rfl) hc0) ?_))
  go_ret
  exact ⟨rfl,hB⟩
 ·have rT:=mrs_t k0
  have rS:=mrs_s k0
  have rN:=mrs_n k0
  have rE:=mrs_e k0
  have cm:=mrs_m k0
  have cc:=mrs_c k0
  go_wp2_with (first|(refine wl_value rfl (exec_ldmid rfl isArr32 (by rfl) rT) ?_)|(refine wl_value rfl (exec_ldmid rfl isArr32 (by rfl) rS) ?_)|(refine wl_value rfl (exec_ldmid rfl isArr24 (by rfl) rN) ?_)|(refine wl_value rfl (exec_ldend rfl (by rfl) rE) ?_)|(refine wl_value rfl (exec_eqSF rfl (by rfl) (by rfl) hc0) ?_))
  refine (hMC hc0 _ hE).mono ?_
  rintro x v14 ⟨rfl,hb⟩
  replace k0:=k0.kept hb
  replace hE:=hE.kept hb
  replace hB:=hB.trans (hb.mono hB.size)
  clear hb
  clear rT rS rN rE cm cc
  go_wp2_with fail
  go_ret
  exact ⟨rfl,hB⟩
theorem marks_walk (T Sc Nn:Nat→Int) (v:Bool) (B:Nat→Int) (p:Int) (m c t:ByteArray) (w:World) (hE:Env w) (hT:Byts 32 T) (hSc:Byts 32 Sc) (hNn:Byts 24 Nn) (hBb:Byts 16 B) (ht:t.size≤140737488351232) :
  Calls Tryz.prog 6 #[.agg (SC 108 (mrsV T Sc Nn v B p m c)),.string t] w fun e w'=>e=.returned (.bool true)∧Below w.heap.size w w':=by
 obtain ⟨nn,hnn⟩:∃ x,txt (mkS 24 Nn)=x:=⟨_,rfl⟩
 have hnb:Byts 24 nn:=fun j _=>hnn▸txt_b _ j
 have he:SC 108 (mrsV T Sc Nn v B p m c)=SC 108 (mrsV T Sc nn v B p m c):=SC_congr (fun i hi=>by
  unfold mrsV
  by_cases h1:i<32
  ·rw[if_pos h1,if_pos h1]
  by_cases h2:i<64
  ·rw[if_neg h1,if_neg h1,if_pos h2,if_pos h2]
  by_cases h3:i<88
  ·rw[if_neg h1,if_neg h1,if_neg h2,if_neg h2,if_pos h3,if_pos h3,← hnn,txt_mkS (hNn (i-64) (by omega)) (by omega)]
  ·rw[if_neg h1,if_neg h1,if_neg h2,if_neg h2,if_neg h3,if_neg h3])
 have hnt:txt (mkS 24 nn)=nn:=by
  have h:=mkS_txt (mkS 24 Nn)
  rw[mkS_size,hnn] at h
  rw[h,hnn]
 rw[he]
 clear he hnn hNn
 have hks:=CookieR_size Sc v B p
 have q:∀ (e:(MarkR m T c).2=0),(m.size=116∨m.size=60)∧(c.size=0∨c.size=16)∧(MarkR m T c).1=marksT m T c:=fun e=>by
  unfold MarkR at e ⊢
  by_cases h1:m.size=116∨m.size=60
  ·rw[if_neg (not_not_intro h1)] at e ⊢
   by_cases h2:c.size=0∨c.size=16
   ·rw[if_neg (not_not_intro h2)]
    exact ⟨h1,h2,rfl⟩
   ·rw[if_pos h2] at e
    exact absurd e (by decide)
  ·rw[if_pos h1] at e
   exact absurd e (by decide)
 have q2:∀ (e:(MarkR m T c).2=0),isWhole (MarkR m T c).1=true:=fun e=>by
  obtain ⟨h1,h2,h3⟩:=q e
  rw[h3]
  exact marks_whole m T c h2 h1
 refine marks_gen T Sc nn v B p m c t (MarkR m T c).1 (CookieR Sc v B p) (BoxR T nn t c).1 (UnboxR T c t).1 (BoxR T nn (MarkR m T c).1 (CookieR Sc v B p)).1 (MarkR m T c).2 (BoxR T nn t c).2 (UnboxR T c t).2 (MarkedR t T) (CookiedR t c) w hE hks
  (fun u hu=>Mark_all m T c u hu hT) (fun u hu=>Cookie_run Sc v B p u hu hSc hBb) (fun u hu=>Box_all T nn t c u hu hT hnb) (fun u hu=>Unbox_all T c t u hu hT) (fun u hu=>Marked_run t T u hu hT) (fun u hu=>Cookied_run t c u hu)
  (fun u _=>rMark_run m T c u hT) (fun u _=>rCookie_run Sc v B p u hSc hBb) (fun u _=>rBox_run T nn t c u hT hnb (by omega)) (fun u _=>rUnbox_run T c t u hT) (fun u _=>rMarked_run t T u hT (by omega)) (fun u _=>rCookied_run t c u (by omega)) ?_ ?_ ?_ ?_ ?_
 ·intro e
  have:=q2 e
  unfold isWhole at this
  exact of_decide_eq_true this
 ·intro e u hu
  have h:=Box_all T nn (MarkR m T c).1 (CookieR Sc v B p) u hu hT hnb
  rw[(box_found T nn (MarkR m T c).1 (CookieR Sc v B p) (q2 e) hks hnt).1] at h
  exact h
 ·intro e u hu
  have h:=Unbox_all T ((MarkR m T c).1.extract ((MarkR m T c).1.size-32) ((MarkR m T c).1.size-32+16)) (BoxR T nn (MarkR m T c).1 (CookieR Sc v B p)).1 u hu hT
  rw[(box_found T nn (MarkR m T c).1 (CookieR Sc v B p) (q2 e) hks hnt).2] at h
  exact h
 ·intro e u hu
  obtain ⟨h1,h2,h3⟩:=q e
  have h:=Marked_run (MarkR m T c).1 T u hu hT
  rw[h3] at h ⊢
  rw[marks_marked m T c h2 h1] at h
  exact h
 ·intro e hc u hu
  obtain ⟨h1,h2,h3⟩:=q e
  have h:=Cookied_run (MarkR m T c).1 c u hu
  rw[h3] at h ⊢
  rw[marks_cookied m T c h2 h1 (fun e0=>hc (by
   apply ByteArray.ext
   exact Array.eq_empty_of_size_eq_zero e0))] at h
  exact h
end Go.Proofs.YthghcjepdhkfdaaGreatDoor
namespace Go.Proofs.YthghcjepdhkfdaaGreatDoor
open Go.ChangeShapes Go.WideShapes Go.ChangeAt Go.WideMaps Go.WideElems Go.RowKit Go.Proofs Go.Lib
end Go.Proofs.YthghcjepdhkfdaaGreatDoor
namespace Go.Proofs.YthghcjepdhkfdaaGreatDoor
open Go.ChangeShapes Go.WideShapes Go.ChangeAt Go.WideMaps Go.WideElems Go.RowKit Go.Proofs
theorem part_at {cs L:List Value} {o m:Nat} (h:(cs.drop o).take m=L) (j:Nat) (hj:j<m):cs[o+j]?=L[j]?:=by
 rw[← h,List.getElem?_take,if_pos hj,List.getElem?_drop]
theorem trod_byts {H:Type} {enc:TypeId×Value→H} {W:World} {base fuel:Nat} {sp:Nat→Bool} {hd:Bool} {t:TypeId} {n:Nat} {cs:List Value} {x:DataW H×List MemPlace} (ht:Tryz.prog.underlying t=some (.array n 5))
  (h:DataW.trod enc Tryz.prog W base sp hd fuel t cs=some x) (hn:cs.length=n):∃ s,Byts n s∧cs=nums .u8 n s∧x.2=[]:=by
 obtain ⟨xs,m,_,hx,_,hl,hel⟩:=DataW.trod_array ht h
 have key:∀ i,i<n→∃ k:Int,cs[i]?=some (.int .u8 k)∧(0≤k∧k<256)∧∃ dd,xs[i]?=some (dd,[]):=fun i hi=>by
  have hi':=hel i hi
  rw[cells5] at hi'
  have hxs:i<xs.length:=by omega
  rw[List.getElem?_eq_getElem hxs] at hi'
  obtain ⟨k,e1,e2,wk⟩:=DataW.trod_int Tryz.underlying5 hi'
  have e3:=part_at e1 0 (by omega)
  have:=bounds_u8 wk
  refine ⟨k,by simpa using e3,by omega,⟨_,by rw[List.getElem?_eq_getElem hxs,e2]⟩⟩
 refine ⟨fun i=>match cs[i]? with | some (.int .u8 k)=>k | _=>0,fun i hi=>?_,?_,?_⟩
 ·obtain ⟨k,e,hb,_⟩:=key i hi
  simp only[e]
  exact hb
 ·refine List.ext_getElem? (fun i=>?_)
  by_cases hi:i<n
  ·obtain ⟨k,e,hb,_⟩:=key i hi
   rw[nums_at .u8 n _ hi]
   simp only[e]
  ·rw[List.getElem?_eq_none (by omega),List.getElem?_eq_none (by rw[nums_len];omega)]
 ·rw[hx]
  apply List.flatMap_eq_nil_iff.2
  intro y hxm
  obtain ⟨i,hi,rfl⟩:=List.getElem_of_mem hxm
  obtain ⟨_,_,_,dd,e⟩:=key i (by omega)
  rw[List.getElem?_eq_getElem hi] at e
  rw[Option.some.inj e]
end Go.Proofs.YthghcjepdhkfdaaGreatDoor
namespace Go.Proofs.YthghcjepdhkfdaaGreatDoor
open Go.RowKit Go.Proofs
section
variable {w:World} {b:Nat} {O E S R:Nat→Int} {ix l f:Int} {m:ByteArray}
end
end Go.Proofs.YthghcjepdhkfdaaGreatDoor
namespace Go.Proofs.YthghcjepdhkfdaaGreatDoor
open Go.ChangeShapes Go.WideShapes Go.ChangeAt Go.WideMaps Go.WideElems Go.RowKit Go.Proofs
theorem cells32n:Tryz.prog.cellsOf 22=32:=by kernel_rfl
theorem cellsStr8:Tryz.prog.cellsOf 9=1:=by kernel_rfl
theorem SC_ext {n:Nat} {cs:Array Value} {V:Nat→Value} (hs:cs.size=n) (h:∀ i,i<n→cs.toList[i]?=some (V i)):cs=SC n V:=by
 apply Array.ext_getElem?
 intro i
 by_cases hi:i<n
 ·rw[← Array.getElem?_toList,h i hi,SC_get n V i hi]
 ·rw[Array.getElem?_eq_none (by omega),Array.getElem?_eq_none (by rw[SC_size];omega)]
theorem one_at {cs:List Value} {o:Nat} {v:Value} (h:(cs.drop o).take 1=[v]):cs[o]?=some v:=by
 have:=part_at h 0 (by omega)
 simpa using this
section
variable {H:Type} {enc:TypeId×Value→H} {W:World} {base:Nat} {sp:Nat→Bool} {v:Value} {d:DataW H} {p:List MemPlace}
end
theorem cells24n:Tryz.prog.cellsOf 53=24:=by kernel_rfl
theorem cells16n:Tryz.prog.cellsOf 54=16:=by kernel_rfl
theorem cellsB1:Tryz.prog.cellsOf 4=1:=by kernel_rfl
theorem cellsI1:Tryz.prog.cellsOf 3=1:=by kernel_rfl
theorem cellsEnd:Tryz.prog.cellsOf 58=18:=by kernel_rfl
theorem cellsAdr:Tryz.prog.cellsOf 56=17:=by kernel_rfl
theorem mrs_rec:Tryz.prog.readableRec 60=true:=by kernel_rfl
theorem mrs_row:60<Tryz.prog.types.size:=of_decide_eq_true (by kernel_rfl)
theorem mrs_cells:Tryz.prog.cellsOf 60=108:=by kernel_rfl
theorem mrs_fields:∃ f0 f1 f2 f3 f4 f5,Tryz.prog.underlying 60=some (.struct #[f0,f1,f2,f3,f4,f5])∧(f0.type=22∧f0.offset=0)∧(f1.type=22∧f1.offset=32)∧(f2.type=53∧f2.offset=64)∧(f3.type=58∧f3.offset=88)∧(f4.type=9∧f4.offset=106)∧(f5.type=9∧f5.offset=107):=⟨_,_,_,_,_,_,Tryz.underlying60,⟨rfl,rfl⟩,⟨rfl,rfl⟩,⟨rfl,rfl⟩,⟨rfl,rfl⟩,⟨rfl,rfl⟩,⟨rfl,rfl⟩⟩
theorem end_fields:∃ f0 f1,Tryz.prog.underlying 58=some (.struct #[f0,f1])∧(f0.type=56∧f0.offset=0)∧(f1.type=3∧f1.offset=17):=⟨_,_,Tryz.underlying58,⟨rfl,rfl⟩,⟨rfl,rfl⟩⟩
theorem adr_fields:∃ f0 f1,Tryz.prog.underlying 56=some (.struct #[f0,f1])∧(f0.type=4∧f0.offset=0)∧(f1.type=54∧f1.offset=1):=⟨_,_,Tryz.underlying56,⟨rfl,rfl⟩,⟨rfl,rfl⟩⟩
section
variable {H:Type} {enc:TypeId×Value→H} {W:World} {base:Nat} {sp:Nat→Bool} {v:Value} {d:DataW H} {p:List MemPlace}
theorem trod_end {hd:Bool} {fuel:Nat} {cs:List Value} {x:DataW H×List MemPlace} (h:DataW.trod enc Tryz.prog W base sp hd fuel 58 cs=some x) (hn:cs.length=18):∃ z B q,Byts 16 B∧(∀ i,i<18→cs[i]?=some (endV z B q i))∧x.2=[]:=by
 obtain ⟨f0,f1,hu,⟨t0,o0⟩,⟨t1,o1⟩⟩:=end_fields
 obtain ⟨g0,g1,hg,⟨s0,p0⟩,⟨s1,p1⟩⟩:=adr_fields
 obtain ⟨xs,n,_,hx,_,hlen,hel⟩:=DataW.trod_struct hu h
 match xs,hlen with
 | [y0,y1],_ =>
  have e0:=hel 0 f0 rfl
  have e1:=hel 1 f1 rfl
  rw[t0,o0,cellsAdr] at e0
  rw[t1,o1,cellsI1] at e1
  obtain ⟨q,b1,c1,w1⟩:=DataW.trod_int Tryz.underlying3 e1
  obtain ⟨ys,n2,_,hy,_,hlen2,hel2⟩:=DataW.trod_struct hg e0
  match ys,hlen2 with
  | [z0,z1],_ =>
   have d0:=hel2 0 g0 rfl
   have d1:=hel2 1 g1 rfl
   rw[s0,p0,cellsB1] at d0
   rw[s1,p1,cells16n] at d1
   obtain ⟨z,b2,c2⟩:=DataW.trod_bool Tryz.underlying4 d0
   obtain ⟨B,a3,b3,c3⟩:=trod_byts Tryz.underlying54 d1 (by rw[List.length_take,List.length_drop,List.length_take,List.length_drop];omega)
   refine ⟨z,B,q,a3,fun i hi=>?_,?_⟩
   ·unfold endV
    by_cases h1:i<1
    ·rw[if_pos h1]
     obtain rfl:i=0:=by omega
     have:=one_at b2
     rw[List.getElem?_take,if_pos (by omega),List.getElem?_drop] at this
     exact this
    ·rw[if_neg h1]
     by_cases h2:i<17
     ·rw[if_pos h2]
      have:=part_at b3 (i-1) (by omega)
      rw[nums_at .u8 16 _ (by omega),List.getElem?_take,if_pos (by omega),List.getElem?_drop,show 0+(1+(i-1))=i by omega] at this
      exact this
     ·rw[if_neg h2]
      obtain rfl:i=17:=by omega
      exact one_at b1
   ·rw[hx]
    simp[hy,c1,c2,c3]
theorem open_mrs (hv:Value.okWide Tryz.prog W .any base 60 v) (h:DataW.Trod enc Tryz.prog W 0 sp true 60 v d p):∃ T Sc Nn z B q m c,Byts 32 T∧Byts 32 Sc∧Byts 24 Nn∧Byts 16 B∧v=.agg (SC 108 (mrsV T Sc Nn z B q m c))∧p=[]:=by
 obtain ⟨f0,f1,f2,f3,f4,f5,hu,⟨t0,o0⟩,⟨t1,o1⟩,⟨t2,o2⟩,⟨t3,o3⟩,⟨t4,o4⟩,⟨t5,o5⟩⟩:=mrs_fields
 obtain ⟨cs,rfl,hsz,_⟩:∃ cs,v=.agg cs∧cs.size=Tryz.prog.cellsOf 60∧Row.okWide Tryz.prog W .any base 60 cs:=by
  simpa [Value.okWide,hu] using hv
 rw[mrs_cells] at hsz
 obtain ⟨fuel,hf⟩:=h
 obtain ⟨xs,n,_,hx,_,hlen,hel⟩:=DataW.trod_struct hu hf
 have hcs:(Value.agg cs).cells.toList=cs.toList:=rfl
 rw[hcs] at hel
 have hl:cs.toList.length=108:=by simpa using hsz
 match xs,hlen with
 | [y0,y1,y2,y3,y4,y5],_ =>
  have e0:=hel 0 f0 rfl
  have e1:=hel 1 f1 rfl
  have e2:=hel 2 f2 rfl
  have e3:=hel 3 f3 rfl
  have e4:=hel 4 f4 rfl
  have e5:=hel 5 f5 rfl
  rw[t0,o0,cells32n] at e0
  rw[t1,o1,cells32n] at e1
  rw[t2,o2,cells24n] at e2
  rw[t3,o3,cellsEnd] at e3
  rw[t4,o4,cellsStr8] at e4
  rw[t5,o5,cellsStr8] at e5
  obtain ⟨T,a0,b0,c0⟩:=trod_byts Tryz.underlying22 e0 (by rw[List.length_take,List.length_drop];omega)
  obtain ⟨Sc,a1,b1,c1⟩:=trod_byts Tryz.underlying22 e1 (by rw[List.length_take,List.length_drop];omega)
  obtain ⟨Nn,a2,b2,c2⟩:=trod_byts Tryz.underlying53 e2 (by rw[List.length_take,List.length_drop];omega)
  obtain ⟨z,B,q,a3,b3,c3⟩:=trod_end e3 (by rw[List.length_take,List.length_drop];omega)
  obtain ⟨m,b4,c4,_⟩:=DataW.trod_string Tryz.underlying9 e4
  obtain ⟨c,b5,c5,_⟩:=DataW.trod_string Tryz.underlying9 e5
  refine ⟨T,Sc,Nn,z,B,q,m,c,a0,a1,a2,a3,?_,?_⟩
  ·congr 1
   refine SC_ext hsz (fun i hi=>?_)
   unfold mrsV
   by_cases h1:i<32
   ·rw[if_pos h1]
    have:=part_at b0 i h1
    rw[Nat.zero_add,nums_at .u8 32 _ h1] at this
    exact this
   rw[if_neg h1]
   by_cases h2:i<64
   ·rw[if_pos h2]
    have:=part_at b1 (i-32) (by omega)
    rw[show 32+(i-32)=i by omega,nums_at .u8 32 _ (by omega)] at this
    exact this
   rw[if_neg h2]
   by_cases h3:i<88
   ·rw[if_pos h3]
    have:=part_at b2 (i-64) (by omega)
    rw[show 64+(i-64)=i by omega,nums_at .u8 24 _ (by omega)] at this
    exact this
   rw[if_neg h3]
   by_cases h4:i<106
   ·rw[if_pos h4]
    have:=b3 (i-88) (by omega)
    rw[List.getElem?_take,if_pos (by omega),List.getElem?_drop,show 88+(i-88)=i by omega] at this
    exact this
   rw[if_neg h4]
   by_cases h5:i<107
   ·rw[if_pos h5]
    obtain rfl:i=106:=by omega
    exact one_at b4
   ·rw[if_neg h5]
    obtain rfl:i=107:=by omega
    exact one_at b5
  ·simp only[Prod.mk.injEq] at hx
   rw[hx.2]
   simp[c0,c1,c2,c3,c4,c5]
end
end Go.Proofs.YthghcjepdhkfdaaGreatDoor
