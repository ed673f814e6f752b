/-
  Own text. Package noise: messages.
-/
import Derived.Test.YthghcjepdhkfdaaGreatDoorJK10
import Derived.Test.YthghcjepdhkfdaaGreatDoorJK4
import Derived.Test.YthghcjepdhkfdaaGreatDoorJK9
import Derived.Test.YthghcjepdhkfdaaGreatDoorJK1
import Derived.Test.YthghcjepdhkfdaaGreatDoorJK3
set_option maxHeartbeats 16000000
set_option maxRecDepth 100000
namespace Go.Proofs.YthghcjepdhkfdaaGreatDoor
open Go.RowKit Go.Proofs
theorem enterLow (args:Array Value) (w:World):(callFunc 122 args).run Tryz.prog w=.ok (.enter 122 args) w:=by kernel_rfl
theorem enterNum (args:Array Value) (w:World):(callFunc 112 args).run Tryz.prog w=.ok (.enter 112 args) w:=by kernel_rfl
theorem four_lit (n:UInt8):(⟨#[n,0,0,0]⟩:ByteArray)=fourT (n.toNat:Int):=by
 have h:=n.toNat_lt
 have e:numT (fourT (n.toNat:Int))=(n.toNat:Int):=numT_four _ (by unfold W32;omega)
 exact ((kind_iff (fourT_size _) n).1 e).symm
theorem txt_part (s:ByteArray) (a b j:Nat) (h:a+j<b) (hb:b≤s.size):txt (s.extract a b) j=txt s (a+j):=by
 have h1:j<(s.extract a b).size:=by rw[ByteArray.size_extract];omega
 have h2:a+j<s.size:=by omega
 rw[← txt_get h1,← txt_get h2]
 congr 2
 rw[ByteArray.getElem_extract h1]
theorem numA_four (m:ByteArray) (p:Nat) (h:p+4≤m.size):numA m p 4=numT (m.extract p (p+4)):=by
 have e:numA m p 4=0+txt m (p+0)*256 ^ 0+txt m (p+1)*256 ^ 1+txt m (p+2)*256 ^ 2+txt m (p+3)*256 ^ 3:=rfl
 unfold numT
 rw[e,txt_part m p (p+4) 0 (by omega) h,txt_part m p (p+4) 1 (by omega) h,txt_part m p (p+4) 2 (by omega) h,txt_part m p (p+4) 3 (by omega) h]
 omega
theorem res_c1 {fn:Func} {q:Tmp} {ty:TypeId} (h:fn.results=#[.cell q ty]) {tmps:Array Value} {w:World} {g n:Nat} {V:Nat→Value} (hA:IsSt ty n) (hg:SAt w g ty n V) (hq:tmps.getD q undef=.pointer (some ⟨g,0,none⟩)) :
  (results fn tmps).run Tryz.prog w=.ok (.agg (SC n V)) w:=by
 obtain ⟨d,h1,h2,h3⟩:=hA
 have hq':tmps[q]?.getD undef=.pointer (some ⟨g,0,none⟩):=by simpa using hq
 have:=run_loadVar_row (P:=Tryz.prog) w g ty ty (SC n V) (0,0) _ hg h1 (by cases d<;>first | rfl | exact h2) (by rw[SC_size];exact h3)
 simp[results,h,hq',asAddr,this]
theorem needForm_ok (m:ByteArray) (size:Nat) (kind:Int) (w:World) (hm:m.size=size) (hk:numA m 0 4=kind) (hs:4≤size) :
  Calls Tryz.prog 131 #[.string m,.int .i64 (size:Int),.int .u32 kind] w fun x w'=>x=.returned (.tuple #[])∧w'=w:=by
 have h1:((m.size:Int)==(size:Int))=true:=by rw[hm];simp
 have h2:(numA m 0 4==kind)=true:=by rw[hk];simp
 go_enter Tryz.func131,Tryz.ntmps131
 go_wp2_with fail
 refine (need_ok 10 _).mono ?_
 rintro x v1 ⟨rfl,rfl⟩
 go_wp2_with fail
 refine (numberAt_run m 0 _ (by omega) (by omega)).mono ?_
 rintro x v2 ⟨rfl,rfl⟩
 go_wp2_with fail
 refine (need_ok 11 _).mono ?_
 rintro x v3 ⟨rfl,rfl⟩
 go_wp2_with fail
 exact bodyPost_end (results_none rfl _ _ _) rfl ⟨rfl,rfl⟩
theorem needForm_no (m:ByteArray) (size:Nat) (kind:Int) (w:World) (hm:¬ (m.size=size∧numA m 0 4=kind)) (hs:4≤size) :
  Calls Tryz.prog 131 #[.string m,.int .i64 (size:Int),.int .u32 kind] w fun x w'=>x=gup (if m.size=size then 11 else 10)∧w'=w:=by
 by_cases hz:m.size=size
 ·rw[if_pos hz]
  have h1:((m.size:Int)==(size:Int))=true:=by rw[hz];simp
  have h2:(numA m 0 4==kind)=false:=by simpa using fun h=>hm ⟨hz,h⟩
  clear hm
  go_enter Tryz.func131,Tryz.ntmps131
  go_wp2_with fail
  refine (need_ok 10 _).mono ?_
  rintro x v1 ⟨rfl,rfl⟩
  go_wp2_with fail
  refine (numberAt_run m 0 _ (by omega) (by omega)).mono ?_
  rintro x v2 ⟨rfl,rfl⟩
  go_wp2_with fail
  refine (need_no 11 _).mono ?_
  rintro x v3 ⟨rfl,rfl⟩
  exact ⟨rfl,rfl,rfl⟩
 ·rw[if_neg hz]
  have h1:((m.size:Int)==(size:Int))=false:=by simp;omega
  clear hm
  go_enter Tryz.func131,Tryz.ntmps131
  go_wp2_with fail
  refine (need_no 10 _).mono ?_
  rintro x v1 ⟨rfl,rfl⟩
  exact ⟨rfl,rfl,rfl⟩
def iniV (ix:Int) (E:Nat→Int) (k s:ByteArray) (i:Nat):Value:=if i<1 then .int .u32 ix else if i<33 then .int .u8 (E (i-1)) else if i<34 then .string k else .string s
def iniZ:Nat→Value:=iniV 0 (fun _=>0) ⟨#[]⟩ ⟨#[]⟩
theorem iniOf_no (m:ByteArray) (w:World) (hm:¬ (m.size=148∧numA m 0 4=1)) :
  Calls Tryz.prog 87 #[.string m] w fun x w'=>x=gup (if m.size=148 then 11 else 10)∧Below w.heap.size w w':=by
 have g0:SAt (w.alloc (.cells (SC 35 (iniZ)) 118)) w.heap.size 118 35 (iniZ):=heap_alloc_new w _
 have hB:Below w.heap.size w (w.alloc (.cells (SC 35 (iniZ)) 118)):=(Below.refl _ w).alloc (Nat.le_refl _) _
 go_enter Tryz.func87,Tryz.ntmps87
 go_wp2_with fail
 refine (needForm_no m 148 1 _ hm (by omega)).mono ?_
 rintro x v1 ⟨rfl,rfl⟩
 exact ⟨rfl,rfl,hB⟩
theorem touch_GT {v0:World} {T:Nat→Prop} {G:List (Nat×Cont)} (hG:∀ k∈G.map (·.1),T k) (w w':World) (h:Touch T v0 w) (ht:Touch (fun k=>v0.heap.size≤k∨k∈G.map (·.1)) w w'):Touch T v0 w' :=
 ⟨ht.os.trans h.os,ht.tape.trans h.tape,ht.output.trans h.output,Nat.le_trans h.size ht.size,fun k hk hn=>(ht.block k (by have:=h.size;omega) (fun e=>e.elim (fun e=>by omega) (fun e=>hn (hG k e)))).trans (h.block k hk hn)⟩
theorem touch_tr {T:Nat→Prop} {u v w:World} (h:Touch T u v) (k:Touch T v w):Touch T u w:=⟨k.os.trans h.os,k.tape.trans h.tape,k.output.trans h.output,Nat.le_trans h.size k.size,fun q hq hn=>(k.block q (by have:=h.size;omega) hn).trans (h.block q hq hn)⟩
theorem heap_at_alloc (w:World) (o:Obj) (n:Nat) (h:w.heap.size=n):(w.alloc o).heap[n]?=some o:=by
 subst h
 exact heap_alloc_new w o
theorem heap_keep_alloc {w:World} (o:Obj) {k:Nat} {x:Obj} (h:w.heap[k]?=some x):(w.alloc o).heap[k]?=some x:=(Below.heap_alloc _ _ _ (heap_lt h)).trans h
def CAt (w:World) (b:Nat) (ty:TypeId) (v:Value):Prop:=w.heap[b]?=some (.cells #[v] ty (0,0))
section
variable {w w':World} {b:Nat} {ty:TypeId} {v:Value}
theorem CAt.lt (h:CAt w b ty v):b<w.heap.size:=heap_lt h
theorem CAt.block (h:CAt w b ty v) (e:w'.heap[b]?=w.heap[b]?):CAt w' b ty v:=e.trans h
theorem CAt.kept (h:CAt w b ty v) (hb:Below w.heap.size w w'):CAt w' b ty v:=h.block (hb.block b h.lt)
theorem CAt.at (h:CAt w b ty v):w.cell? ⟨b,0,none⟩=some v:=cell_of_row w b 0 _ _ _ h
theorem CAt.free (h:CAt w b ty v):w.frozen? ⟨b,0,none⟩=false:=frozen_of_row w b 0 _ _ h
theorem CAt.set (h:CAt w b ty v) (x:Value):CAt (w.setCell ⟨b,0,none⟩ x) b ty x:=by
 have h2:=heap_setCell_same w b 0 _ ty x h
 unfold CAt
 simpa using h2
end
theorem res_sat {fn:Func} {p q r:Tmp} {ty ty':TypeId} (h:fn.results=#[.cell p ty,.cell q ty',.tmp r]) {tmps:Array Value} {w:World} {g g' n n':Nat} {k':IntKind} {V:Nat→Value} {s':Nat→Int} {x:Value} (hA:IsSt ty n) (hA':IsArr ty' n') (hg:SAt w g ty n V) (hg':ArrAt w g' k' ty' n' s') (hp:tmps.getD p undef=.pointer (some ⟨g,0,none⟩)) (hq:tmps.getD q undef=.pointer (some ⟨g',0,none⟩)) (hr:tmps.getD r undef=x) :
  (results fn tmps).run Tryz.prog w=.ok (.tuple #[.agg (SC n V),.agg (WA k' n' s'),x]) w:=by
 obtain ⟨d,h1,h2,h3⟩:=hA
 obtain ⟨m',e',h1',h3'⟩:=hA'
 have hp':tmps[p]?.getD undef=.pointer (some ⟨g,0,none⟩):=by simpa using hp
 have hq':tmps[q]?.getD undef=.pointer (some ⟨g',0,none⟩):=by simpa using hq
 have hr':tmps[r]?.getD undef=x:=by simpa using hr
 have e1:=run_loadVar_row (P:=Tryz.prog) w g ty ty (SC n V) (0,0) _ hg h1 (by cases d<;>first | rfl | exact h2) (by rw[SC_size];exact h3)
 have e2:=run_loadVar_row (P:=Tryz.prog) w g' ty' ty' (WA k' n' s') (0,0) _ hg' h1' rfl (by rw[WA_size];exact h3')
 simp[results,h,hp',hq',hr',asAddr,e1,e2]
theorem enterBeginCl (args:Array Value) (w:World):(callFunc 35 args).run Tryz.prog w=.ok (.enter 35 args) w:=by kernel_rfl
theorem Begin_cn (b0 b1 b2 b3 b4 b5 b6:Nat) (O:Nat→Int) (P:Nat→Int) (E:Nat→Int) (T:Nat→Int) (ix:Int) (X:Int) (u:World) (hE:Env u) (c0:ArrAt u b0 .u8 22 32 O) (c1:ArrAt u b1 .u8 22 32 P) (c2:ArrAt u b2 .u8 22 32 E) (c3:ArrAt u b3 .u8 26 12 T) (c4:CAt u b4 23 (.int .u32 ix))
  (hst:∀ u,Env u→Calls Tryz.prog 36 #[.agg (WA .u8 32 O),.agg (WA .u8 32 P),.agg (WA .u8 32 E),.agg (WA .u8 12 T),.int .u32 ix] u fun e w'=>e=gup X∧Below u.heap.size u w') :
  Calls Tryz.prog 35 #[.pointer (some ⟨b0,0,none⟩),.pointer (some ⟨b1,0,none⟩),.pointer (some ⟨b2,0,none⟩),.pointer (some ⟨b3,0,none⟩),.pointer (some ⟨b4,0,none⟩),.pointer (some ⟨b5,0,none⟩),.pointer (some ⟨b6,0,none⟩)] u fun e w'=>e=gup X∧Below u.heap.size u w':=by
 have e4:=c4.at
 go_enter Tryz.func35,Tryz.ntmps35
 go_wp2_with (first|(refine ld_arr isArr32 c0 (by rfl) ?_)|(refine ld_arr isArr32 c1 (by rfl) ?_)|(refine ld_arr isArr32 c2 (by rfl) ?_)|(refine ld_arr isArr12 c3 (by rfl) ?_))
 refine (hst _ hE).mono ?_
 rintro x v1 ⟨rfl,hb⟩
 exact ⟨rfl,rfl,hb⟩
set_option linter.unusedVariables false in
theorem Begin_no (O:Nat→Int) (P:Nat→Int) (E:Nat→Int) (T:Nat→Int) (ix:Int) (X:Int) (w:World) (hE:Env w)
  (hst:∀ u,Env u→Calls Tryz.prog 36 #[.agg (WA .u8 32 O),.agg (WA .u8 32 P),.agg (WA .u8 32 E),.agg (WA .u8 12 T),.int .u32 ix] u fun e w'=>e=gup X∧Below u.heap.size u w') :
  Calls Tryz.prog 9 #[.agg (WA .u8 32 O),.agg (WA .u8 32 P),.agg (WA .u8 32 E),.agg (WA .u8 12 T),.int .u32 ix] w fun e w'=>e=.returned (.tuple #[.string ⟨#[]⟩,.agg (SC 162 hanZ),.int .i64 X])∧Below w.heap.size w w':=by
 have hB:Below w.heap.size w ((((((((w.alloc (.cells (WA .u8 32 O) 22)).alloc (.cells (WA .u8 32 P) 22)).alloc (.cells (WA .u8 32 E) 22)).alloc (.cells (WA .u8 12 T) 26)).alloc (.cells #[.int .u32 ix] 23)).alloc (.cells Tryz.zeroCells31 31)).alloc (.cells #[.string ⟨#[]⟩] 9)).alloc (.cells Tryz.zeroCells31 31)):=((((((((Below.refl _ w).alloc (by simp) _).alloc (by simp) _).alloc (by simp;omega) _).alloc (by simp;omega) _).alloc (by simp;omega) _).alloc (by simp;omega) _).alloc (by simp;omega) _).alloc (by simp;omega) _
 have g0:ArrAt ((((((((w.alloc (.cells (WA .u8 32 O) 22)).alloc (.cells (WA .u8 32 P) 22)).alloc (.cells (WA .u8 32 E) 22)).alloc (.cells (WA .u8 12 T) 26)).alloc (.cells #[.int .u32 ix] 23)).alloc (.cells Tryz.zeroCells31 31)).alloc (.cells #[.string ⟨#[]⟩] 9)).alloc (.cells Tryz.zeroCells31 31)) w.heap.size .u8 22 32 O:=heap_keep_alloc _ (heap_keep_alloc _ (heap_keep_alloc _ (heap_keep_alloc _ (heap_keep_alloc _ (heap_keep_alloc _ (heap_keep_alloc _ (heap_at_alloc w _ w.heap.size (by simp))))))))
 have g1:ArrAt ((((((((w.alloc (.cells (WA .u8 32 O) 22)).alloc (.cells (WA .u8 32 P) 22)).alloc (.cells (WA .u8 32 E) 22)).alloc (.cells (WA .u8 12 T) 26)).alloc (.cells #[.int .u32 ix] 23)).alloc (.cells Tryz.zeroCells31 31)).alloc (.cells #[.string ⟨#[]⟩] 9)).alloc (.cells Tryz.zeroCells31 31)) (w.heap.size+1) .u8 22 32 P:=heap_keep_alloc _ (heap_keep_alloc _ (heap_keep_alloc _ (heap_keep_alloc _ (heap_keep_alloc _ (heap_keep_alloc _ (heap_at_alloc (w.alloc (.cells (WA .u8 32 O) 22)) _ (w.heap.size+1) (by simp)))))))
 have g2:ArrAt ((((((((w.alloc (.cells (WA .u8 32 O) 22)).alloc (.cells (WA .u8 32 P) 22)).alloc (.cells (WA .u8 32 E) 22)).alloc (.cells (WA .u8 12 T) 26)).alloc (.cells #[.int .u32 ix] 23)).alloc (.cells Tryz.zeroCells31 31)).alloc (.cells #[.string ⟨#[]⟩] 9)).alloc (.cells Tryz.zeroCells31 31)) (w.heap.size+1+1) .u8 22 32 E:=heap_keep_alloc _ (heap_keep_alloc _ (heap_keep_alloc _ (heap_keep_alloc _ (heap_keep_alloc _ (heap_at_alloc ((w.alloc (.cells (WA .u8 32 O) 22)).alloc (.cells (WA .u8 32 P) 22)) _ (w.heap.size+1+1) (by simp))))))
 have g3:ArrAt ((((((((w.alloc (.cells (WA .u8 32 O) 22)).alloc (.cells (WA .u8 32 P) 22)).alloc (.cells (WA .u8 32 E) 22)).alloc (.cells (WA .u8 12 T) 26)).alloc (.cells #[.int .u32 ix] 23)).alloc (.cells Tryz.zeroCells31 31)).alloc (.cells #[.string ⟨#[]⟩] 9)).alloc (.cells Tryz.zeroCells31 31)) (w.heap.size+1+1+1) .u8 26 12 T:=heap_keep_alloc _ (heap_keep_alloc _ (heap_keep_alloc _ (heap_keep_alloc _ (heap_at_alloc (((w.alloc (.cells (WA .u8 32 O) 22)).alloc (.cells (WA .u8 32 P) 22)).alloc (.cells (WA .u8 32 E) 22)) _ (w.heap.size+1+1+1) (by simp)))))
 have g4:CAt ((((((((w.alloc (.cells (WA .u8 32 O) 22)).alloc (.cells (WA .u8 32 P) 22)).alloc (.cells (WA .u8 32 E) 22)).alloc (.cells (WA .u8 12 T) 26)).alloc (.cells #[.int .u32 ix] 23)).alloc (.cells Tryz.zeroCells31 31)).alloc (.cells #[.string ⟨#[]⟩] 9)).alloc (.cells Tryz.zeroCells31 31)) (w.heap.size+1+1+1+1) 23 (.int .u32 ix):=heap_keep_alloc _ (heap_keep_alloc _ (heap_keep_alloc _ (heap_at_alloc ((((w.alloc (.cells (WA .u8 32 O) 22)).alloc (.cells (WA .u8 32 P) 22)).alloc (.cells (WA .u8 32 E) 22)).alloc (.cells (WA .u8 12 T) 26)) _ (w.heap.size+1+1+1+1) (by simp))))
 have g5:SAt ((((((((w.alloc (.cells (WA .u8 32 O) 22)).alloc (.cells (WA .u8 32 P) 22)).alloc (.cells (WA .u8 32 E) 22)).alloc (.cells (WA .u8 12 T) 26)).alloc (.cells #[.int .u32 ix] 23)).alloc (.cells Tryz.zeroCells31 31)).alloc (.cells #[.string ⟨#[]⟩] 9)).alloc (.cells Tryz.zeroCells31 31)) (w.heap.size+1+1+1+1+1) 31 162 hanZ:=by
  have h:(((((((((w.alloc (.cells (WA .u8 32 O) 22)).alloc (.cells (WA .u8 32 P) 22)).alloc (.cells (WA .u8 32 E) 22)).alloc (.cells (WA .u8 12 T) 26)).alloc (.cells #[.int .u32 ix] 23)).alloc (.cells Tryz.zeroCells31 31)).alloc (.cells #[.string ⟨#[]⟩] 9)).alloc (.cells Tryz.zeroCells31 31))).heap[(w.heap.size+1+1+1+1+1)]?=some (.cells Tryz.zeroCells31 31):=heap_keep_alloc _ (heap_keep_alloc _ (heap_at_alloc (((((w.alloc (.cells (WA .u8 32 O) 22)).alloc (.cells (WA .u8 32 P) 22)).alloc (.cells (WA .u8 32 E) 22)).alloc (.cells (WA .u8 12 T) 26)).alloc (.cells #[.int .u32 ix] 23)) _ (w.heap.size+1+1+1+1+1) (by simp)))
  unfold SAt
  rw[← zeroHand]
  exact h
 have g6:CAt ((((((((w.alloc (.cells (WA .u8 32 O) 22)).alloc (.cells (WA .u8 32 P) 22)).alloc (.cells (WA .u8 32 E) 22)).alloc (.cells (WA .u8 12 T) 26)).alloc (.cells #[.int .u32 ix] 23)).alloc (.cells Tryz.zeroCells31 31)).alloc (.cells #[.string ⟨#[]⟩] 9)).alloc (.cells Tryz.zeroCells31 31)) (w.heap.size+1+1+1+1+1+1) 9 (.string ⟨#[]⟩):=heap_keep_alloc _ (heap_at_alloc ((((((w.alloc (.cells (WA .u8 32 O) 22)).alloc (.cells (WA .u8 32 P) 22)).alloc (.cells (WA .u8 32 E) 22)).alloc (.cells (WA .u8 12 T) 26)).alloc (.cells #[.int .u32 ix] 23)).alloc (.cells Tryz.zeroCells31 31)) _ (w.heap.size+1+1+1+1+1+1) (by simp))
 have g7:SAt ((((((((w.alloc (.cells (WA .u8 32 O) 22)).alloc (.cells (WA .u8 32 P) 22)).alloc (.cells (WA .u8 32 E) 22)).alloc (.cells (WA .u8 12 T) 26)).alloc (.cells #[.int .u32 ix] 23)).alloc (.cells Tryz.zeroCells31 31)).alloc (.cells #[.string ⟨#[]⟩] 9)).alloc (.cells Tryz.zeroCells31 31)) (w.heap.size+1+1+1+1+1+1+1) 31 162 hanZ:=by
  have h:(((((((((w.alloc (.cells (WA .u8 32 O) 22)).alloc (.cells (WA .u8 32 P) 22)).alloc (.cells (WA .u8 32 E) 22)).alloc (.cells (WA .u8 12 T) 26)).alloc (.cells #[.int .u32 ix] 23)).alloc (.cells Tryz.zeroCells31 31)).alloc (.cells #[.string ⟨#[]⟩] 9)).alloc (.cells Tryz.zeroCells31 31))).heap[(w.heap.size+1+1+1+1+1+1+1)]?=some (.cells Tryz.zeroCells31 31):=heap_at_alloc (((((((w.alloc (.cells (WA .u8 32 O) 22)).alloc (.cells (WA .u8 32 P) 22)).alloc (.cells (WA .u8 32 E) 22)).alloc (.cells (WA .u8 12 T) 26)).alloc (.cells #[.int .u32 ix] 23)).alloc (.cells Tryz.zeroCells31 31)).alloc (.cells #[.string ⟨#[]⟩] 9)) _ (w.heap.size+1+1+1+1+1+1+1) (by simp)
  unfold SAt
  rw[← zeroHand]
  exact h
 replace hE:=hE.kept hB
 have hss:(((((((((w.alloc (.cells (WA .u8 32 O) 22)).alloc (.cells (WA .u8 32 P) 22)).alloc (.cells (WA .u8 32 E) 22)).alloc (.cells (WA .u8 12 T) 26)).alloc (.cells #[.int .u32 ix] 23)).alloc (.cells Tryz.zeroCells31 31)).alloc (.cells #[.string ⟨#[]⟩] 9)).alloc (.cells Tryz.zeroCells31 31))).heap.size=w.heap.size+1+1+1+1+1+1+1+1:=by simp
 have hAt:=attempt_run 35 #[.pointer (some ⟨w.heap.size,0,none⟩),.pointer (some ⟨(w.heap.size+1),0,none⟩),.pointer (some ⟨(w.heap.size+1+1),0,none⟩),.pointer (some ⟨(w.heap.size+1+1+1),0,none⟩),.pointer (some ⟨(w.heap.size+1+1+1+1),0,none⟩),.pointer (some ⟨(w.heap.size+1+1+1+1+1+1),0,none⟩),.pointer (some ⟨(w.heap.size+1+1+1+1+1+1+1),0,none⟩)] (fun x=>x=(w.heap.size+1+1+1+1+1+1)∨x=(w.heap.size+1+1+1+1+1+1+1)) (fun x v=>x=X∧CAt v (w.heap.size+1+1+1+1+1+1) 9 (.string ⟨#[]⟩)∧SAt v (w.heap.size+1+1+1+1+1+1+1) 31 162 hanZ) ((((((((w.alloc (.cells (WA .u8 32 O) 22)).alloc (.cells (WA .u8 32 P) 22)).alloc (.cells (WA .u8 32 E) 22)).alloc (.cells (WA .u8 12 T) 26)).alloc (.cells #[.int .u32 ix] 23)).alloc (.cells Tryz.zeroCells31 31)).alloc (.cells #[.string ⟨#[]⟩] 9)).alloc (.cells Tryz.zeroCells31 31)) enterBeginCl (fun x hx=>by simp at hx ⊢;omega) (fun u hu=>by
  refine ((Begin_cn w.heap.size (w.heap.size+1) (w.heap.size+1+1) (w.heap.size+1+1+1) (w.heap.size+1+1+1+1) (w.heap.size+1+1+1+1+1+1) (w.heap.size+1+1+1+1+1+1+1) O P E T ix X u (hE.kept hu) (g0.kept hu) (g1.kept hu) (g2.kept hu) (g3.kept hu) (g4.kept hu) hst).mono ?_)
  rintro e v ⟨rfl,hb⟩
  exact ⟨touch_le hb,X,.inr rfl,rfl,(g6.kept hu).kept hb,(g7.kept hu).kept hb⟩)
 have hmf:∀ (fn:Fn) (first cap:Array Value) (w:World),(Instr.makeFunc fn first cap).run Tryz.prog w=.ok (.func fn first cap) w:=fun _ _ _ _=>rfl
 go_enter Tryz.func9,Tryz.ntmps9
 go_wp2_with fail
 refine hAt.mono ?_
 rintro e v0 ⟨x,vc,rfl,⟨hx,p0,p1⟩,tT,hb⟩
 have hx':=hx.symm
 clear hx
 subst hx'
 clear hAt hmf
 replace p0:=p0.block (hb.block (w.heap.size+1+1+1+1+1+1) (by omega))
 replace p1:=p1.block (hb.block (w.heap.size+1+1+1+1+1+1+1) (by omega))
 replace g5:=g5.block (tT.block (w.heap.size+1+1+1+1+1) g5.lt (by omega))
 replace hB:Below w.heap.size w v0:=⟨tT.os.trans hB.os,tT.tape.trans hB.tape,tT.output.trans hB.output,Nat.le_trans hB.size tT.size,fun k hk=>(tT.block k (by have:=hB.size;omega) (by omega)).trans (hB.block k hk)⟩
 clear tT hb hss g0 g1 g2 g3 g4 g6 g7 hE
 go_wp2_with fail
 have HL0:Hid (∀ u,Touch (fun x=>x=(w.heap.size+1+1+1+1+1)) v0 u→CAt u (w.heap.size+1+1+1+1+1+1) 9 (.string ⟨#[]⟩)):=Hid.mk (fun u hu=>p0.block (hu.block (w.heap.size+1+1+1+1+1+1) p0.lt (by omega)))
 have HL1:Hid (∀ u,Touch (fun x=>x=(w.heap.size+1+1+1+1+1)) v0 u→SAt u (w.heap.size+1+1+1+1+1+1+1) 31 162 hanZ):=Hid.mk (fun u hu=>p1.block (hu.block (w.heap.size+1+1+1+1+1+1+1) p1.lt (by omega)))
 refine wp_region3 (Touch (fun x=>x=(w.heap.size+1+1+1+1+1)) v0) v0.heap.size
   [((w.heap.size+1+1+1+1+1),once (SC 162 hanZ) 31 4 (SC 162 hanZ))]
   [kv (.string ⟨#[]⟩),kv (.agg (SC 162 hanZ)),kv (.int .i64 X),kv (.string ⟨#[]⟩),.val fun _=>True,kv (.int .i64 X)]
   [.none,.none,.none,.none,.base 0 1,.none]
   [some 18,some 19,some 20,some 10,none,some 12]
   [(13,.pointer (some ⟨(w.heap.size+1+1+1+1+1+1),0,none⟩)),(14,.pointer (some ⟨(w.heap.size+1+1+1+1+1+1+1),0,none⟩)),(15,.int .i64 X),(11,.pointer (some ⟨(w.heap.size+1+1+1+1+1),0,none⟩))]
   [[],[],[],[.slot 0],[.slot 1,.base 0 0],[.slot 2]]
   [.base 0 1,.slot 3,.slot 5] [18,19,20,10,12]
   rfl (by kernel_rfl) ⟨rfl,rfl,rfl,rfl,trivial⟩ (touch_le (Below.refl _ v0).drew) (Nat.le_refl _) ⟨⟨g5.lt,obIn g5⟩,trivial⟩ ⟨trivial,trivial⟩ (touch_GT (fun k hk=>by simpa using hk))
   ⟨
    (fun _ _ ww _ hS _ fr _=>sV (exec_ld rfl fr.1 (load_str (HL0.out ww hS).at))),
    (fun _ _ ww _ hS _ fr _=>sV (look_st rfl isHand (HL1.out ww hS) fr.2.1)),
    (fun _ _ _ _ _ _ fr _=>sV (exec_move rfl fr.2.2.1)),
    (fun _ _ _ _ _ _ _ kn=>sV (exec_assign rfl kn.1)),
    (fun _ _ _ _ _ _ fr kn=>.inl ⟨trivial,fun K hK=>act_st7 rfl isHand (hanV_one _ _ _ _ _ _ _) fr.2.2.2.1 kn.1 (obAt kn.2.1) (fun w2 hg ho=>hK _ _ ⟨⟨touch_only ho,obIn hg⟩,trivial⟩)⟩),
    (fun _ _ _ _ _ _ _ kn=>sV (exec_assign rfl kn.1)),
    trivial⟩ ?_
 intro vs own v9 hT1 hsz kn inj
 clear inj hsz
 have q0:SAt v9 (w.heap.size+1+1+1+1+1) 31 162 hanZ:=obAt kn.1
 have e10:vs 10=_:=kn.2.1
 have e12:vs 12=_:=kn.2.2.1
 clear kn HL0 HL1
 replace hB:Below w.heap.size w v9:=⟨hT1.os.trans hB.os,hT1.tape.trans hB.tape,hT1.output.trans hB.output,Nat.le_trans hB.size hT1.size,fun k hk=>(hT1.block k (by have:=hB.size;omega) (by omega)).trans (hB.block k hk)⟩
 simp only[putAll,Act.put,List.setIfInBounds_toArray,List.set_cons_zero,List.set_cons_succ,e10,e12]
 go_wp2_with fail
 exact bodyPost_ret (v:=.tuple #[.string ⟨#[]⟩,.agg (SC 162 hanZ),.int .i64 X]) (res_tct Tryz.results9 isHand q0 (by rfl) (by rfl) (by rfl)) rfl ⟨rfl,hB⟩
theorem enterAcceptCl (args:Array Value) (w:World):(callFunc 45 args).run Tryz.prog w=.ok (.enter 45 args) w:=by kernel_rfl
theorem Accept_cn (b0 b1 b2 b3:Nat) (O:Nat→Int) (m:ByteArray) (X:Int) (u:World) (hE:Env u) (c0:ArrAt u b0 .u8 22 32 O) (c1:CAt u b1 9 (.string m))
  (hst:∀ u,Env u→Calls Tryz.prog 46 #[.agg (WA .u8 32 O),.string m] u fun e w'=>e=gup X∧Below u.heap.size u w') :
  Calls Tryz.prog 45 #[.pointer (some ⟨b0,0,none⟩),.pointer (some ⟨b1,0,none⟩),.pointer (some ⟨b2,0,none⟩),.pointer (some ⟨b3,0,none⟩)] u fun e w'=>e=gup X∧Below u.heap.size u w':=by
 have e1:=c1.at
 go_enter Tryz.func45,Tryz.ntmps45
 go_wp2_with (first|(refine ld_arr isArr32 c0 (by rfl) ?_))
 refine (hst _ hE).mono ?_
 rintro x v1 ⟨rfl,hb⟩
 exact ⟨rfl,rfl,hb⟩
set_option linter.unusedVariables false in
theorem Accept_no (O:Nat→Int) (m:ByteArray) (X:Int) (w:World) (hE:Env w)
  (hst:∀ u,Env u→Calls Tryz.prog 46 #[.agg (WA .u8 32 O),.string m] u fun e w'=>e=gup X∧Below u.heap.size u w') :
  Calls Tryz.prog 11 #[.agg (WA .u8 32 O),.string m] w fun e w'=>e=.returned (.tuple #[.agg (SC 162 hanZ),.agg (WA .u8 12 (fun _=>0)),.int .i64 X])∧Below w.heap.size w w':=by
 have hB:Below w.heap.size w ((((((w.alloc (.cells (WA .u8 32 O) 22)).alloc (.cells #[.string m] 9)).alloc (.cells Tryz.zeroCells31 31)).alloc (.cells (WA .u8 12 (fun _=>0)) 26)).alloc (.cells Tryz.zeroCells31 31)).alloc (.cells (WA .u8 12 (fun _=>0)) 26)):=((((((Below.refl _ w).alloc (by simp) _).alloc (by simp) _).alloc (by simp;omega) _).alloc (by simp;omega) _).alloc (by simp;omega) _).alloc (by simp;omega) _
 have g0:ArrAt ((((((w.alloc (.cells (WA .u8 32 O) 22)).alloc (.cells #[.string m] 9)).alloc (.cells Tryz.zeroCells31 31)).alloc (.cells (WA .u8 12 (fun _=>0)) 26)).alloc (.cells Tryz.zeroCells31 31)).alloc (.cells (WA .u8 12 (fun _=>0)) 26)) w.heap.size .u8 22 32 O:=heap_keep_alloc _ (heap_keep_alloc _ (heap_keep_alloc _ (heap_keep_alloc _ (heap_keep_alloc _ (heap_at_alloc w _ w.heap.size (by simp))))))
 have g1:CAt ((((((w.alloc (.cells (WA .u8 32 O) 22)).alloc (.cells #[.string m] 9)).alloc (.cells Tryz.zeroCells31 31)).alloc (.cells (WA .u8 12 (fun _=>0)) 26)).alloc (.cells Tryz.zeroCells31 31)).alloc (.cells (WA .u8 12 (fun _=>0)) 26)) (w.heap.size+1) 9 (.string m):=heap_keep_alloc _ (heap_keep_alloc _ (heap_keep_alloc _ (heap_keep_alloc _ (heap_at_alloc (w.alloc (.cells (WA .u8 32 O) 22)) _ (w.heap.size+1) (by simp)))))
 have g2:SAt ((((((w.alloc (.cells (WA .u8 32 O) 22)).alloc (.cells #[.string m] 9)).alloc (.cells Tryz.zeroCells31 31)).alloc (.cells (WA .u8 12 (fun _=>0)) 26)).alloc (.cells Tryz.zeroCells31 31)).alloc (.cells (WA .u8 12 (fun _=>0)) 26)) (w.heap.size+1+1) 31 162 hanZ:=by
  have h:(((((((w.alloc (.cells (WA .u8 32 O) 22)).alloc (.cells #[.string m] 9)).alloc (.cells Tryz.zeroCells31 31)).alloc (.cells (WA .u8 12 (fun _=>0)) 26)).alloc (.cells Tryz.zeroCells31 31)).alloc (.cells (WA .u8 12 (fun _=>0)) 26))).heap[(w.heap.size+1+1)]?=some (.cells Tryz.zeroCells31 31):=heap_keep_alloc _ (heap_keep_alloc _ (heap_keep_alloc _ (heap_at_alloc ((w.alloc (.cells (WA .u8 32 O) 22)).alloc (.cells #[.string m] 9)) _ (w.heap.size+1+1) (by simp))))
  unfold SAt
  rw[← zeroHand]
  exact h
 have g3:ArrAt ((((((w.alloc (.cells (WA .u8 32 O) 22)).alloc (.cells #[.string m] 9)).alloc (.cells Tryz.zeroCells31 31)).alloc (.cells (WA .u8 12 (fun _=>0)) 26)).alloc (.cells Tryz.zeroCells31 31)).alloc (.cells (WA .u8 12 (fun _=>0)) 26)) (w.heap.size+1+1+1) .u8 26 12 (fun _=>0):=heap_keep_alloc _ (heap_keep_alloc _ (heap_at_alloc (((w.alloc (.cells (WA .u8 32 O) 22)).alloc (.cells #[.string m] 9)).alloc (.cells Tryz.zeroCells31 31)) _ (w.heap.size+1+1+1) (by simp)))
 have g4:SAt ((((((w.alloc (.cells (WA .u8 32 O) 22)).alloc (.cells #[.string m] 9)).alloc (.cells Tryz.zeroCells31 31)).alloc (.cells (WA .u8 12 (fun _=>0)) 26)).alloc (.cells Tryz.zeroCells31 31)).alloc (.cells (WA .u8 12 (fun _=>0)) 26)) (w.heap.size+1+1+1+1) 31 162 hanZ:=by
  have h:(((((((w.alloc (.cells (WA .u8 32 O) 22)).alloc (.cells #[.string m] 9)).alloc (.cells Tryz.zeroCells31 31)).alloc (.cells (WA .u8 12 (fun _=>0)) 26)).alloc (.cells Tryz.zeroCells31 31)).alloc (.cells (WA .u8 12 (fun _=>0)) 26))).heap[(w.heap.size+1+1+1+1)]?=some (.cells Tryz.zeroCells31 31):=heap_keep_alloc _ (heap_at_alloc ((((w.alloc (.cells (WA .u8 32 O) 22)).alloc (.cells #[.string m] 9)).alloc (.cells Tryz.zeroCells31 31)).alloc (.cells (WA .u8 12 (fun _=>0)) 26)) _ (w.heap.size+1+1+1+1) (by simp))
  unfold SAt
  rw[← zeroHand]
  exact h
 have g5:ArrAt ((((((w.alloc (.cells (WA .u8 32 O) 22)).alloc (.cells #[.string m] 9)).alloc (.cells Tryz.zeroCells31 31)).alloc (.cells (WA .u8 12 (fun _=>0)) 26)).alloc (.cells Tryz.zeroCells31 31)).alloc (.cells (WA .u8 12 (fun _=>0)) 26)) (w.heap.size+1+1+1+1+1) .u8 26 12 (fun _=>0):=heap_at_alloc (((((w.alloc (.cells (WA .u8 32 O) 22)).alloc (.cells #[.string m] 9)).alloc (.cells Tryz.zeroCells31 31)).alloc (.cells (WA .u8 12 (fun _=>0)) 26)).alloc (.cells Tryz.zeroCells31 31)) _ (w.heap.size+1+1+1+1+1) (by simp)
 replace hE:=hE.kept hB
 have hss:(((((((w.alloc (.cells (WA .u8 32 O) 22)).alloc (.cells #[.string m] 9)).alloc (.cells Tryz.zeroCells31 31)).alloc (.cells (WA .u8 12 (fun _=>0)) 26)).alloc (.cells Tryz.zeroCells31 31)).alloc (.cells (WA .u8 12 (fun _=>0)) 26))).heap.size=w.heap.size+1+1+1+1+1+1:=by simp
 have hAt:=attempt_run 45 #[.pointer (some ⟨w.heap.size,0,none⟩),.pointer (some ⟨(w.heap.size+1),0,none⟩),.pointer (some ⟨(w.heap.size+1+1+1+1),0,none⟩),.pointer (some ⟨(w.heap.size+1+1+1+1+1),0,none⟩)] (fun x=>x=(w.heap.size+1+1+1+1)∨x=(w.heap.size+1+1+1+1+1)) (fun x v=>x=X∧SAt v (w.heap.size+1+1+1+1) 31 162 hanZ∧ArrAt v (w.heap.size+1+1+1+1+1) .u8 26 12 (fun _=>0)) ((((((w.alloc (.cells (WA .u8 32 O) 22)).alloc (.cells #[.string m] 9)).alloc (.cells Tryz.zeroCells31 31)).alloc (.cells (WA .u8 12 (fun _=>0)) 26)).alloc (.cells Tryz.zeroCells31 31)).alloc (.cells (WA .u8 12 (fun _=>0)) 26)) enterAcceptCl (fun x hx=>by simp at hx ⊢;omega) (fun u hu=>by
  refine ((Accept_cn w.heap.size (w.heap.size+1) (w.heap.size+1+1+1+1) (w.heap.size+1+1+1+1+1) O m X u (hE.kept hu) (g0.kept hu) (g1.kept hu) hst).mono ?_)
  rintro e v ⟨rfl,hb⟩
  exact ⟨touch_le hb,X,.inr rfl,rfl,(g4.kept hu).kept hb,(g5.kept hu).kept hb⟩)
 have hmf:∀ (fn:Fn) (first cap:Array Value) (w:World),(Instr.makeFunc fn first cap).run Tryz.prog w=.ok (.func fn first cap) w:=fun _ _ _ _=>rfl
 go_enter Tryz.func11,Tryz.ntmps11
 go_wp2_with fail
 refine hAt.mono ?_
 rintro e v0 ⟨x,vc,rfl,⟨hx,p0,p1⟩,tT,hb⟩
 have hx':=hx.symm
 clear hx
 subst hx'
 clear hAt hmf
 replace p0:=p0.block (hb.block (w.heap.size+1+1+1+1) (by omega))
 replace p1:=p1.block (hb.block (w.heap.size+1+1+1+1+1) (by omega))
 replace g2:=g2.block (tT.block (w.heap.size+1+1) g2.lt (by omega))
 replace g3:=g3.block (tT.block (w.heap.size+1+1+1) g3.lt (by omega))
 replace hB:Below w.heap.size w v0:=⟨tT.os.trans hB.os,tT.tape.trans hB.tape,tT.output.trans hB.output,Nat.le_trans hB.size tT.size,fun k hk=>(tT.block k (by have:=hB.size;omega) (by omega)).trans (hB.block k hk)⟩
 clear tT hb hss g0 g1 g4 g5 hE
 go_wp2_with fail
 have HL0:Hid (∀ u,Touch (fun x=>x=(w.heap.size+1+1)∨x=(w.heap.size+1+1+1)) v0 u→SAt u (w.heap.size+1+1+1+1) 31 162 hanZ):=Hid.mk (fun u hu=>p0.block (hu.block (w.heap.size+1+1+1+1) p0.lt (by omega)))
 have HL1:Hid (∀ u,Touch (fun x=>x=(w.heap.size+1+1)∨x=(w.heap.size+1+1+1)) v0 u→ArrAt u (w.heap.size+1+1+1+1+1) .u8 26 12 (fun _=>0)):=Hid.mk (fun u hu=>p1.block (hu.block (w.heap.size+1+1+1+1+1) p1.lt (by omega)))
 refine wp_region3 (Touch (fun x=>x=(w.heap.size+1+1)∨x=(w.heap.size+1+1+1)) v0) v0.heap.size
   [((w.heap.size+1+1),once (SC 162 hanZ) 31 3 (SC 162 hanZ)),((w.heap.size+1+1+1),once (WA .u8 12 (fun _=>0)) 26 4 (WA .u8 12 (fun _=>0)))]
   [kv (.agg (SC 162 hanZ)),kv (.agg (WA .u8 12 (fun _=>0))),kv (.int .i64 X),.val fun _=>True,.val fun _=>True,kv (.int .i64 X)]
   [.none,.none,.none,.base 0 1,.base 1 1,.none]
   [some 12,some 13,some 14,none,none,some 6]
   [(7,.pointer (some ⟨(w.heap.size+1+1+1+1),0,none⟩)),(8,.pointer (some ⟨(w.heap.size+1+1+1+1+1),0,none⟩)),(9,.int .i64 X),(4,.pointer (some ⟨(w.heap.size+1+1),0,none⟩)),(5,.pointer (some ⟨(w.heap.size+1+1+1),0,none⟩))]
   [[],[],[],[.slot 0,.base 0 0],[.slot 1,.base 1 0],[.slot 2]]
   [.base 0 1,.base 1 1,.slot 5] [12,13,14,6]
   rfl (by kernel_rfl) ⟨rfl,rfl,rfl,rfl,rfl,trivial⟩ (touch_le (Below.refl _ v0).drew) (Nat.le_refl _) ⟨⟨g2.lt,obIn g2⟩,⟨g3.lt,obIn g3⟩,trivial⟩ ⟨⟨(show ((w.heap.size+1+1):Nat)≠(w.heap.size+1+1+1) from by omega),trivial⟩,trivial,trivial⟩ (touch_GT (fun k hk=>by simpa using hk))
   ⟨
    (fun _ _ ww _ hS _ fr _=>sV (look_st rfl isHand (HL0.out ww hS) fr.1)),
    (fun _ _ ww _ hS _ fr _=>sV (look_arr rfl isArr12 (HL1.out ww hS) fr.2.1)),
    (fun _ _ _ _ _ _ fr _=>sV (exec_move rfl fr.2.2.1)),
    (fun _ _ _ _ _ _ fr kn=>.inl ⟨trivial,fun K hK=>act_st7 rfl isHand (hanV_one _ _ _ _ _ _ _) fr.2.2.2.1 kn.1 (obAt kn.2.1) (fun w2 hg ho=>hK _ _ ⟨⟨touch_only ho,obIn hg⟩,trivial⟩)⟩),
    (fun _ _ _ _ _ _ fr kn=>.inl ⟨trivial,fun K hK=>act_arr rfl isArr12 fr.2.2.2.2.1 kn.1 (obAt kn.2.1) (fun w2 hg ho=>hK _ _ ⟨⟨touch_only ho,obIn hg⟩,trivial⟩)⟩),
    (fun _ _ _ _ _ _ _ kn=>sV (exec_assign rfl kn.1)),
    trivial⟩ ?_
 intro vs own v9 hT1 hsz kn inj
 clear inj hsz
 have q0:SAt v9 (w.heap.size+1+1) 31 162 hanZ:=obAt kn.1
 have q1:ArrAt v9 (w.heap.size+1+1+1) .u8 26 12 (fun _=>0):=obAt kn.2.1
 have e6:vs 6=_:=kn.2.2.1
 clear kn HL0 HL1
 replace hB:Below w.heap.size w v9:=⟨hT1.os.trans hB.os,hT1.tape.trans hB.tape,hT1.output.trans hB.output,Nat.le_trans hB.size hT1.size,fun k hk=>(hT1.block k (by have:=hB.size;omega) (by omega)).trans (hB.block k hk)⟩
 simp only[putAll,Act.put,List.setIfInBounds_toArray,List.set_cons_zero,List.set_cons_succ,e6]
 go_wp2_with fail
 exact bodyPost_ret (v:=.tuple #[.agg (SC 162 hanZ),.agg (WA .u8 12 (fun _=>0)),.int .i64 X]) (res_sat Tryz.results11 isHand isArr12 q0 q1 (by rfl) (by rfl) (by rfl)) rfl ⟨rfl,hB⟩
theorem ext_at {p q r:ByteArray} {x y:Nat} (hx:x=p.size) (hy:y=x+q.size):(p++(q++r)).extract x y=q:=by
 subst hx hy
 have:=ByteArray.extract_append_size_add (a:=p) (b:=q++r) (i:=0) (j:=q.size)
 rw[Nat.add_zero] at this
 rw[this]
 exact ByteArray.extract_append_eq_left rfl
theorem SC_congr {n:Nat} {V V':Nat→Value} (h:∀ i,i<n→V i=V' i):SC n V=SC n V':=by
 unfold SC
 congr 1
 exact List.map_congr_left (fun i hi=>h i (List.mem_range.1 hi))
theorem under_two (key nonce:Nat→Int) (s:ByteArray):underT key nonce (underT key nonce s)=s:=by
 unfold underT
 rw[mkS_size]
 conv=>rhs;rw[← mkS_txt s]
 refine mkS_congr (fun j hj=>?_)
 show xorw (txt (mkS s.size (strm key nonce 1 s)) j) (ksb key nonce 1 j)=txt s j
 rw[txt_mkS (strm_b key nonce 1 s j) hj]
 exact xorw_back8 (txt_b s j) (blk_b _ _ (Nat.mod_lt _ (by decide)))
theorem open_cut (key nonce:Nat→Int) (u m beside:ByteArray) (hm:m.size=16):openT key nonce (u++m) beside=if m=markT key nonce u beside then (underT key nonce u,0) else (ByteArray.empty,13):=by
 have hs:(u++m).size=u.size+16:=by rw[ByteArray.size_append,hm]
 have h1:(u++m).size-16=u.size:=by omega
 unfold openT
 rw[h1,app_left,app_right]
 by_cases e:m=markT key nonce u beside
 ·rw[if_pos ⟨by omega,e⟩,if_pos e]
 ·rw[if_neg (fun h=>e h.2),if_neg e]
theorem open_seal (key nonce:Nat→Int) (text beside:ByteArray):openT key nonce (boxT key nonce text beside) beside=(text,0):=by
 unfold boxT
 rw[open_cut _ _ _ _ _ (markT_size _ _ _ _),if_pos rfl,under_two]
theorem four1 (n:UInt8):(⟨#[n,0,0,0]⟩:ByteArray).size=4:=rfl
theorem enterPub (args:Array Value) (w:World):(callFunc 18 args).run Tryz.prog w=.ok (.enter 18 args) w:=by kernel_rfl
set_option linter.unusedVariables false in
theorem begin_no1 (O P E T H0 C0:Nat→Int) (ix:Int) (w:World) (hE:Env w) (hO:Byts 32 O) (hP:Byts 32 P) (hEk:Byts 32 E) (hT:Byts 12 T) (hC0:Byts 32 C0) (hH0:Byts 32 H0) (hz:shZ E P=false)
  (hBeg:∀ u,Env u→Calls Tryz.prog 78 #[.agg (WA .u8 32 P)] u fun e w'=>∃ b,u.heap.size≤b∧e=.returned (.pointer (some ⟨b,0,none⟩))∧KtAt w' b H0 C0 (fun _=>0)∧Below u.heap.size u w') :
  Calls Tryz.prog 36 #[.agg (WA .u8 32 O),.agg (WA .u8 32 P),.agg (WA .u8 32 E),.agg (WA .u8 12 T),.int .u32 ix] w fun e w'=>e=gup 18∧Below w.heap.size w w':=by
 have hb4:Below (((((w.alloc (.cells (WA .u8 32 O) 22)).alloc (.cells (WA .u8 32 P) 22)).alloc (.cells (WA .u8 32 E) 22)).alloc (.cells (WA .u8 12 T) 26))).heap.size ((((w.alloc (.cells (WA .u8 32 O) 22)).alloc (.cells (WA .u8 32 P) 22)).alloc (.cells (WA .u8 32 E) 22)).alloc (.cells (WA .u8 12 T) 26)) (((((w.alloc (.cells (WA .u8 32 O) 22)).alloc (.cells (WA .u8 32 P) 22)).alloc (.cells (WA .u8 32 E) 22)).alloc (.cells (WA .u8 12 T) 26)).alloc (.cells Tryz.zeroCells31 31)):=(Below.refl _ _).alloc (Nat.le_refl _) _
 have g0:ArrAt (((((w.alloc (.cells (WA .u8 32 O) 22)).alloc (.cells (WA .u8 32 P) 22)).alloc (.cells (WA .u8 32 E) 22)).alloc (.cells (WA .u8 12 T) 26)).alloc (.cells Tryz.zeroCells31 31)) w.heap.size .u8 22 32 O:=ArrAt.kept (heap_a41 w _ _ _ _) hb4
 have g1:ArrAt (((((w.alloc (.cells (WA .u8 32 O) 22)).alloc (.cells (WA .u8 32 P) 22)).alloc (.cells (WA .u8 32 E) 22)).alloc (.cells (WA .u8 12 T) 26)).alloc (.cells Tryz.zeroCells31 31)) (w.heap.size+1) .u8 22 32 P:=ArrAt.kept (heap_a42 w _ _ _ _) hb4
 have g2:ArrAt (((((w.alloc (.cells (WA .u8 32 O) 22)).alloc (.cells (WA .u8 32 P) 22)).alloc (.cells (WA .u8 32 E) 22)).alloc (.cells (WA .u8 12 T) 26)).alloc (.cells Tryz.zeroCells31 31)) (w.heap.size+1+1) .u8 22 32 E:=ArrAt.kept (heap_a43 w _ _ _ _) hb4
 have g3:ArrAt (((((w.alloc (.cells (WA .u8 32 O) 22)).alloc (.cells (WA .u8 32 P) 22)).alloc (.cells (WA .u8 32 E) 22)).alloc (.cells (WA .u8 12 T) 26)).alloc (.cells Tryz.zeroCells31 31)) (w.heap.size+1+1+1) .u8 26 12 T:=ArrAt.kept (heap_a4 w _ _ _ _) hb4
 have gH:SAt (((((w.alloc (.cells (WA .u8 32 O) 22)).alloc (.cells (WA .u8 32 P) 22)).alloc (.cells (WA .u8 32 E) 22)).alloc (.cells (WA .u8 12 T) 26)).alloc (.cells Tryz.zeroCells31 31)) (w.heap.size+1+1+1+1) 31 162 hanZ:=by
  have h:=heap_alloc_new ((((w.alloc (.cells (WA .u8 32 O) 22)).alloc (.cells (WA .u8 32 P) 22)).alloc (.cells (WA .u8 32 E) 22)).alloc (.cells (WA .u8 12 T) 26)) (.cells Tryz.zeroCells31 31)
  have e:(((((w.alloc (.cells (WA .u8 32 O) 22)).alloc (.cells (WA .u8 32 P) 22)).alloc (.cells (WA .u8 32 E) 22)).alloc (.cells (WA .u8 12 T) 26))).heap.size=w.heap.size+1+1+1+1:=by simp
  rw[e] at h
  unfold SAt
  rw[← zeroHand]
  exact h
 have hB:Below w.heap.size w (((((w.alloc (.cells (WA .u8 32 O) 22)).alloc (.cells (WA .u8 32 P) 22)).alloc (.cells (WA .u8 32 E) 22)).alloc (.cells (WA .u8 12 T) 26)).alloc (.cells Tryz.zeroCells31 31)):=(((((Below.refl _ w).alloc (by simp) _).alloc (by simp) _).alloc (by simp;omega) _).alloc (by simp;omega) _).alloc (by simp;omega) _
 replace hE:=hE.kept hB
 have HOO:=Hid.mk hO
 have HEE:=Hid.mk hEk
 clear hb4
 go_enter Tryz.func36,Tryz.ntmps36
 go_wp2_with fail
 refine wp_gen (fun v=>ArrAt v w.heap.size .u8 22 32 O∧ArrAt v (w.heap.size+1) .u8 22 32 P∧ArrAt v (w.heap.size+1+1) .u8 22 32 E∧ArrAt v (w.heap.size+1+1+1) .u8 26 12 T∧SAt v (w.heap.size+1+1+1+1) 31 162 hanZ∧Below w.heap.size w v∧Env v) ⟨g0,g1,g2,g3,gH,hB,hE⟩ ?_
 clear g0 g1 g2 g3 gH hB hE
 rintro v0 ⟨g0,g1,g2,g3,gH,hB,hE⟩
 have HG0:Hid (∀ u,Below v0.heap.size v0 u→ArrAt u w.heap.size .u8 22 32 O):=Hid.mk (fun u hu=>g0.kept hu)
 have HG2:Hid (∀ u,Below v0.heap.size v0 u→ArrAt u (w.heap.size+1+1) .u8 22 32 E):=Hid.mk (fun u hu=>g2.kept hu)
 have HP:Hid (∀ u,Below v0.heap.size v0 u→Fld.PrimeAt u):=Hid.mk (fun u hu=>(hE.kept hu).2)
 have hHlt:=gH.lt
 refine wp_region3 (Below v0.heap.size v0) v0.heap.size
   ([]:List (Nat×Cont))
   [kv (.agg (WA .u8 32 E)),kv (.agg (WA .u8 32 (pubF E))),kv (.agg (WA .u8 32 O)),kv (.agg (WA .u8 32 (pubF O))),kp (WA .u8 32 fun _=>0) 22 6 (WA .u8 32 (pubF E)),kp (WA .u8 32 fun _=>0) 22 7 (WA .u8 32 (pubF O)),.val fun _=>True,.val fun _=>True]
   [.none,.none,.none,.none,.none,.none,.own 4 1,.own 5 1]
   [some 18,some 19,some 20,some 21,some 12,some 13,none,none]
   [(7,.pointer (some ⟨(w.heap.size+1+1),0,none⟩)),(5,.pointer (some ⟨w.heap.size,0,none⟩))]
   [[],[.slot 0],[],[.slot 2],[],[],[.slot 4,.cont 4 0,.slot 1],[.slot 5,.cont 5 0,.slot 3]]
   [.slot 4,.cont 4 1,.slot 5,.cont 5 1] [18,19,20,21,12,13]
   rfl (by kernel_rfl) ⟨rfl,rfl,trivial⟩ (Below.refl _ v0).drew (Nat.le_refl _) trivial trivial (below_G (Nat.le_refl _) trivial)
   ⟨
    (fun _ _ ww _ hS _ fr _=>sV (look_arr rfl isArr32 (HG2.out ww hS) fr.1)),
    (fun _ _ ww _ hS _ _ kn=>.inl ⟨trivial,fun K hK=>stepc enterPub rfl (args1 kn.1) (Public_run E ww (HP.out ww hS) HEE.out) (fun w' hb=>hK _ _ ⟨touch_below hb,rfl⟩)⟩),
    (fun _ _ ww _ hS _ fr _=>sV (look_arr rfl isArr32 (HG0.out ww hS) fr.2.1)),
    (fun _ _ ww _ hS _ _ kn=>.inl ⟨trivial,fun K hK=>stepc enterPub rfl (args1 kn.1) (Public_run O ww (HP.out ww hS) HOO.out) (fun w' hb=>hK _ _ ⟨touch_below hb,rfl⟩)⟩),
    (fun _ _ _ _ _ _ _ _=>.inl ⟨trivial,fun K hK=>act_alloc zero32 rfl (fun w' hb hg=>hK _ _ ⟨touch_below hb,_,Nat.le_refl _,rfl,obIn hg⟩)⟩),
    (fun _ _ _ _ _ _ _ _=>.inl ⟨trivial,fun K hK=>act_alloc zero32 rfl (fun w' hb hg=>hK _ _ ⟨touch_below hb,_,Nat.le_refl _,rfl,obIn hg⟩)⟩),
    (fun _ _ _ _ _ _ _ kn=>.inl ⟨trivial,fun K hK=>act_arr rfl isArr32 kn.1.1 kn.2.2.1 (obAt kn.2.1) (fun w2 hg ho=>hK _ _ ⟨touch_only ho,obIn hg,trivial⟩)⟩),
    (fun _ _ _ _ _ _ _ kn=>.inl ⟨trivial,fun K hK=>act_arr rfl isArr32 kn.1.1 kn.2.2.1 (obAt kn.2.1) (fun w2 hg ho=>hK _ _ ⟨touch_only ho,obIn hg,trivial⟩)⟩),
    trivial⟩ ?_
 intro vs own v1 hb hs1 kn inj
 clear inj HG0 HG2 HP
 obtain ⟨k1,k2,k3,k4,-⟩:=kn
 obtain ⟨e12,hb12,_⟩:=k1
 obtain ⟨e13,hb13,_⟩:=k3
 change vs 12=_ at e12
 change vs 13=_ at e13
 have ge:ArrAt v1 (own 4) .u8 22 32 (pubF E):=obAt k2
 have gk:ArrAt v1 (own 5) .u8 22 32 (pubF O):=obAt k4
 clear k2 k4 hs1
 replace g0:=g0.kept hb
 replace g1:=g1.kept hb
 replace g2:=g2.kept hb
 replace g3:=g3.kept hb
 replace gH:=gH.kept hb
 replace hE:=hE.kept hb
 replace hB:=hB.trans (hb.mono hB.size)
 clear hb
 simp only[putAll,Act.put,List.setIfInBounds_toArray,List.set_cons_zero,List.set_cons_succ,e12,e13]
 generalize own 4=be at *
 generalize own 5=bk at *
 clear e12 e13
 have hbe:w.heap.size+1+1+1+1+1≤be:=by omega
 have hbk:w.heap.size+1+1+1+1+1≤bk:=by omega
 clear hb12 hb13 hHlt
 go_wp2_with (refine ld_arr isArr32 g1 (by rfl) ?_)
 have hlt1:=ge.lt
 have hlt2:=gk.lt
 have hlt3:=gH.lt
 have hEt:=hE.two
 have hBs:=hB.size
 refine (hBeg _ hE).mono ?_
 rintro x v2 ⟨b,hbb,rfl,g,hb⟩
 have hb3:3≤b:=by omega
 have hbS:w.heap.size≤b:=by omega
 replace g0:=g0.kept hb
 replace g1:=g1.kept hb
 replace g2:=g2.kept hb
 replace g3:=g3.kept hb
 replace gH:=gH.kept hb
 replace ge:=ge.kept hb
 replace gk:=gk.kept hb
 replace hE:=hE.kept hb
 replace hB:=hB.trans (hb.mono hB.size)
 clear hb
 clear hBeg hEt hBs
 go_wp2_with (refine ld_arr isArr32 ge (by rfl) ?_)
 refine (ephemeralIn_run b H0 C0 _ (pubF E) _ hE hb3 g hH0 hC0 (pubF_b E 32)).mono ?_
 rintro x v3 ⟨rfl,g',t1⟩
 replace g0:=g0.tou t1 (by omega)
 replace g1:=g1.tou t1 (by omega)
 replace g2:=g2.tou t1 (by omega)
 replace g3:=g3.tou t1 (by omega)
 replace gH:=gH.tou t1 (by omega)
 replace ge:=ge.tou t1 (by omega)
 replace gk:=gk.tou t1 (by omega)
 replace hE:=hE.touch t1 hb3
 replace hB:=belowT hB t1 hbS (Nat.le_refl _)
 clear t1
 clear g
 have g:=g'
 clear g'
 have hC1:Byts 32 (chn C0 (mkS 32 (pubF E)) 0):=chn_b _ _ 0 32
 have hH1:Byts 32 (mixH H0 (mkS 32 (pubF E))):=mixH_b _ _ 32
 obtain ⟨C1,hC1e⟩:∃ X,chn C0 (mkS 32 (pubF E)) 0=X:=⟨_,rfl⟩
 obtain ⟨H1,hH1e⟩:∃ X,mixH H0 (mkS 32 (pubF E))=X:=⟨_,rfl⟩
 rw[hC1e] at g hC1
 rw[hH1e] at g hH1
 have hmf:∀ (fn:Fn) (first cap:Array Value) (w:World),(Instr.makeFunc fn first cap).run Tryz.prog w=.ok (.func fn first cap) w:=fun _ _ _ _=>rfl
 go_wp2_with (first|(refine ld_arr isArr32 g2 (by rfl) ?_)|(refine ld_arr isArr32 g1 (by rfl) ?_))
 refine (secret_no _ E P _ hE hEk hP hz).mono ?_
 rintro x v9 ⟨rfl,hb⟩
 exact ⟨rfl,rfl,hB.trans (hb.mono hB.size)⟩
theorem zero12c (w:World):(zeroValue 26).run Tryz.prog w=.ok (.agg (WA .u8 12 fun _=>0)) w:=by kernel_rfl
theorem wl_alloc12 {ops:Array Oper} {rest:List Oper} {d:Option Tmp} {t:TypeId} {ps:String} {af:Array Edge} {a:Act} {w:World} {Q:Exit→Act→World→Prop}
  (h:∀ w',ArrAt w' w.heap.size .u8 26 12 (fun _=>0)→Below w.heap.size w w'→wpList Tryz.prog ops Q rest (a.put d (.pointer (some ⟨w.heap.size,0,none⟩))) w') :
  wpList Tryz.prog ops Q ({ dst:=d,op:=.alloc 26,type:=t,pos:=ps,after:=af,guard:=none }::rest) a w :=
 wl_act rfl (act_alloc zero12c rfl (fun w' hb hg=>h w' hg hb))
set_option linter.unusedVariables false in
theorem accept_form (O H0 C0:Nat→Int) (m:ByteArray) (w:World) (hE:Env w) (hO:Byts 32 O) (hC0:Byts 32 C0) (hH0:Byts 32 H0) (hm:¬ (m.size=148∧numA m 0 4=1))
  (hBeg:∀ u,Env u→Calls Tryz.prog 78 #[.agg (WA .u8 32 (pubF O))] u fun e w'=>∃ b,u.heap.size≤b∧e=.returned (.pointer (some ⟨b,0,none⟩))∧KtAt w' b H0 C0 (fun _=>0)∧Below u.heap.size u w') :
  Calls Tryz.prog 46 #[.agg (WA .u8 32 O),.string m] w fun e w'=>e=gup (if m.size=148 then 11 else 10)∧Below w.heap.size w w':=by
 have g0:ArrAt (((w.alloc (.cells (WA .u8 32 O) 22)).alloc (.cells Tryz.zeroCells31 31)).alloc (.cells (WA .u8 12 (fun _=>0)) 26)) w.heap.size .u8 22 32 O:=heap_a31 w _ _ _
 have gH:SAt (((w.alloc (.cells (WA .u8 32 O) 22)).alloc (.cells Tryz.zeroCells31 31)).alloc (.cells (WA .u8 12 (fun _=>0)) 26)) (w.heap.size+1) 31 162 hanZ:=by
  have h:=heap_a32 w (.cells (WA .u8 32 O) 22) (.cells Tryz.zeroCells31 31) (.cells (WA .u8 12 (fun _=>0)) 26)
  unfold SAt
  rw[← zeroHand]
  exact h
 have gS:ArrAt (((w.alloc (.cells (WA .u8 32 O) 22)).alloc (.cells Tryz.zeroCells31 31)).alloc (.cells (WA .u8 12 (fun _=>0)) 26)) (w.heap.size+1+1) .u8 26 12 (fun _=>0):=heap_a3 w _ _ _
 have hB:Below w.heap.size w (((w.alloc (.cells (WA .u8 32 O) 22)).alloc (.cells Tryz.zeroCells31 31)).alloc (.cells (WA .u8 12 (fun _=>0)) 26)):=(((Below.refl _ w).alloc (by simp) _).alloc (by simp) _).alloc (by simp;omega) _
 replace hE:=hE.kept hB
 go_enter Tryz.func46,Tryz.ntmps46
 go_wp2_with fail
 refine (iniOf_no m _ hm).mono ?_
 rintro x v1 ⟨rfl,hb⟩
 exact ⟨rfl,rfl,hB.trans (hb.mono hB.size)⟩
theorem isA12:IsArr 26 12:=⟨_,_,Tryz.underlying26,by kernel_rfl⟩
def latF (a b:Nat→Int):Nat→Nat→Bool
 | 0,_=>false
 | n+1,i=>if a i=b i then latF a b n (i+1) else decide (b i<a i)
def nowC (n:Int):Int:=if n<0 then 0 else if 1099511627776<n then 1099511627776 else n
def stmF (n:Int) (j:Nat):Int:=if j<8 then (4611686018427387914+nowC n/1000)/256 ^ (7-j)%256 else nowC n%1000*1000000/256 ^ (11-j)%256
def rowV (a:Nat→Int):Nat→Nat→Int
 | 0,_=>0
 | n+1,i=>a i*256 ^ n+rowV a n (i+1)
theorem rowV_b (a:Nat→Int):∀ (n i:Nat),(∀ j,j<n→0≤a (i+j)∧a (i+j)<256)→0≤rowV a n i∧rowV a n i<256 ^ n
 | 0,_,_=>by unfold rowV;omega
 | n+1,i,h=>by
  have ih:=rowV_b a n (i+1) (fun j hj=>by have:=h (j+1) (by omega);rwa [show i+(j+1)=i+1+j by omega] at this)
  have h0:=h 0 (by omega)
  rw[Nat.add_zero] at h0
  unfold rowV
  have hp:(0:Int)<256 ^ n:=Int.pow_pos (by omega)
  have h1:0≤a i*256 ^ n:=Int.mul_nonneg h0.1 (by omega)
  have h2:a i*256 ^ n≤255*256 ^ n:=Int.mul_le_mul_of_nonneg_right (by omega) (by omega)
  rw[Int.pow_succ]
  omega
theorem rowV_lt {p x y u v:Int} (hu:0≤u∧u<p) (hv:0≤v∧v<p) (h:x<y):x*p+u<y*p+v:=by
 have h1:(x+1)*p≤y*p:=Int.mul_le_mul_of_nonneg_right (by omega) (by omega)
 rw[Int.add_mul,Int.one_mul] at h1
 omega
theorem latF_row (a b:Nat→Int):∀ (n i:Nat),(∀ j,j<n→0≤a (i+j)∧a (i+j)<256)→(∀ j,j<n→0≤b (i+j)∧b (i+j)<256)→(latF a b n i=true↔rowV b n i<rowV a n i)∧(rowV a n i=rowV b n i→∀ j,j<n→a (i+j)=b (i+j))
 | 0,_,_,_=>⟨by unfold latF rowV;simp,fun _ j hj=>by omega⟩
 | n+1,i,ha,hb=>by
  have sa:∀ j,j<n→0≤a (i+1+j)∧a (i+1+j)<256:=fun j hj=>by have:=ha (j+1) (by omega);rwa [show i+(j+1)=i+1+j by omega] at this
  have sb:∀ j,j<n→0≤b (i+1+j)∧b (i+1+j)<256:=fun j hj=>by have:=hb (j+1) (by omega);rwa [show i+(j+1)=i+1+j by omega] at this
  have ih:=latF_row a b n (i+1) sa sb
  have ra:=rowV_b a n (i+1) sa
  have rb:=rowV_b b n (i+1) sb
  unfold latF rowV
  by_cases e:a i=b i
  ·rw[if_pos e,e]
   refine ⟨by rw[ih.1];omega,fun h j hj=>?_⟩
   have h2:=ih.2 (by omega)
   match j,hj with
   | 0,_=>rw[Nat.add_zero];exact e
   | j+1,hj=>have:=h2 j (by omega);rwa [show i+1+j=i+(j+1) by omega] at this
  ·rw[if_neg e]
   rcases Int.lt_or_gt_of_ne e with h | h
   ·have:=rowV_lt ra rb h
    exact ⟨by simp;omega,fun h=>by omega⟩
   ·have:=rowV_lt rb ra h
    exact ⟨by simp;omega,fun h=>by omega⟩
theorem lat_asym {a b:Nat→Int} (ha:Byts 12 a) (hb:Byts 12 b):¬ (latF a b 12 0=true∧latF b a 12 0=true):=by
 have h1:=latF_row a b 12 0 (fun j hj=>by rw[Nat.zero_add];exact ha j hj) (fun j hj=>by rw[Nat.zero_add];exact hb j hj)
 have h2:=latF_row b a 12 0 (fun j hj=>by rw[Nat.zero_add];exact hb j hj) (fun j hj=>by rw[Nat.zero_add];exact ha j hj)
 rw[h1.1,h2.1]
 omega
theorem lat_tri {a b:Nat→Int} (ha:Byts 12 a) (hb:Byts 12 b):(∀ j,j<12→a j=b j)↔(latF a b 12 0=false∧latF b a 12 0=false):=by
 have h1:=latF_row a b 12 0 (fun j hj=>by rw[Nat.zero_add];exact ha j hj) (fun j hj=>by rw[Nat.zero_add];exact hb j hj)
 have h2:=latF_row b a 12 0 (fun j hj=>by rw[Nat.zero_add];exact hb j hj) (fun j hj=>by rw[Nat.zero_add];exact ha j hj)
 have e1:latF a b 12 0=false↔¬ rowV b 12 0<rowV a 12 0:=by rw[← h1.1];simp
 have e2:latF b a 12 0=false↔¬ rowV a 12 0<rowV b 12 0:=by rw[← h2.1];simp
 rw[e1,e2]
 constructor
 ·intro h
  have:rowV a 12 0=rowV b 12 0:=by
   simp only[rowV,h 0 (by omega),h 1 (by omega),h 2 (by omega),h 3 (by omega),h 4 (by omega),h 5 (by omega),h 6 (by omega),h 7 (by omega),h 8 (by omega),h 9 (by omega),h 10 (by omega),h 11 (by omega),Nat.reduceAdd]
  omega
 ·intro h j hj
  have:=h1.2 (by omega) j hj
  rwa [Nat.zero_add] at this
theorem stmF_b (n:Int) (k:Nat):Byts k (stmF n):=fun j _=>by unfold stmF;split<;>omega
theorem dig8 (A:Int) (h0:0≤A) (h1:A<18446744073709551616):A/72057594037927936%256*72057594037927936+(A/281474976710656%256*281474976710656+(A/1099511627776%256*1099511627776+(A/4294967296%256*4294967296+(A/16777216%256*16777216+(A/65536%256*65536+(A/256%256*256+A%256))))))=A:=by omega
theorem dig4 (A:Int) (h0:0≤A) (h1:A<4294967296):A/16777216%256*16777216+(A/65536%256*65536+(A/256%256*256+A%256))=A:=by omega
theorem nowC_b (n:Int):0≤nowC n∧nowC n≤1099511627776:=by unfold nowC;split<;>(try split)<;>omega
theorem row_stm (n:Int):rowV (stmF n) 12 0=(4611686018427387914+nowC n/1000)*4294967296+nowC n%1000*1000000:=by
 have hn:=nowC_b n
 have hA:=dig8 (4611686018427387914+nowC n/1000) (by omega) (by omega)
 have hB:=dig4 (nowC n%1000*1000000) (by omega) (by omega)
 have e:rowV (stmF n) 12 0=stmF n 0*256 ^ 11+(stmF n 1*256 ^ 10+(stmF n 2*256 ^ 9+(stmF n 3*256 ^ 8+(stmF n 4*256 ^ 7+(stmF n 5*256 ^ 6+(stmF n 6*256 ^ 5+(stmF n 7*256 ^ 4+(stmF n 8*256 ^ 3+(stmF n 9*256 ^ 2+(stmF n 10*256 ^ 1+(stmF n 11*256 ^ 0+0))))))))))):=rfl
 have h0:stmF n 0=(4611686018427387914+nowC n/1000)/72057594037927936%256:=rfl
 have h1:stmF n 1=(4611686018427387914+nowC n/1000)/281474976710656%256:=rfl
 have h2:stmF n 2=(4611686018427387914+nowC n/1000)/1099511627776%256:=rfl
 have h3:stmF n 3=(4611686018427387914+nowC n/1000)/4294967296%256:=rfl
 have h4:stmF n 4=(4611686018427387914+nowC n/1000)/16777216%256:=rfl
 have h5:stmF n 5=(4611686018427387914+nowC n/1000)/65536%256:=rfl
 have h6:stmF n 6=(4611686018427387914+nowC n/1000)/256%256:=rfl
 have h7:stmF n 7=(4611686018427387914+nowC n/1000)/1%256:=rfl
 have h8:stmF n 8=nowC n%1000*1000000/16777216%256:=rfl
 have h9:stmF n 9=nowC n%1000*1000000/65536%256:=rfl
 have h10:stmF n 10=nowC n%1000*1000000/256%256:=rfl
 have h11:stmF n 11=nowC n%1000*1000000/1%256:=rfl
 rw[Int.ediv_one] at h7 h11
 rw[e,h0,h1,h2,h3,h4,h5,h6,h7,h8,h9,h10,h11]
 clear h0 h1 h2 h3 h4 h5 h6 h7 h8 h9 h10 h11 e
 generalize (4611686018427387914+nowC n/1000)/72057594037927936%256=x0 at *
 generalize (4611686018427387914+nowC n/1000)/281474976710656%256=x1 at *
 generalize (4611686018427387914+nowC n/1000)/1099511627776%256=x2 at *
 generalize (4611686018427387914+nowC n/1000)/4294967296%256=x3 at *
 generalize (4611686018427387914+nowC n/1000)/16777216%256=x4 at *
 generalize (4611686018427387914+nowC n/1000)/65536%256=x5 at *
 generalize (4611686018427387914+nowC n/1000)/256%256=x6 at *
 generalize (4611686018427387914+nowC n/1000)%256=x7 at *
 generalize nowC n%1000*1000000/16777216%256=x8 at *
 generalize nowC n%1000*1000000/65536%256=x9 at *
 generalize nowC n%1000*1000000/256%256=x10 at *
 generalize nowC n%1000*1000000%256=x11 at *
 rw[← hB,← hA]
 omega
theorem lat_stm (a b:Int) (ha:0≤a∧a≤1099511627776) (hb:0≤b∧b≤1099511627776):latF (stmF a) (stmF b) 12 0=decide (b<a):=by
 have h1:=latF_row (stmF a) (stmF b) 12 0 (fun j hj=>stmF_b a (0+j+1) _ (by omega)) (fun j hj=>stmF_b b (0+j+1) _ (by omega))
 rw[row_stm,row_stm] at h1
 have ea:nowC a=a:=by unfold nowC;rw[if_neg (by omega),if_neg (by omega)]
 have eb:nowC b=b:=by unfold nowC;rw[if_neg (by omega),if_neg (by omega)]
 rw[ea,eb] at h1
 have h2:=h1.1
 have e:((4611686018427387914+b/1000)*4294967296+b%1000*1000000<(4611686018427387914+a/1000)*4294967296+a%1000*1000000)↔b<a:=by omega
 rw[e] at h2
 rw[Bool.eq_iff_iff,h2,decide_eq_true_iff]
def lstU (f:Nat→Int):Nat→Nat→List UInt8
 | 0,_=>[]
 | n+1,i=>UInt8.ofNat (f i).toNat::lstU f n (i+1)
theorem u8_toNat {x:Int} (h:0≤x∧x<256):(UInt8.ofNat x.toNat).toNat=x.toNat:=by
 rw[UInt8.toNat_ofNat']
 exact Nat.mod_eq_of_lt (by omega)
theorem u8_lt {x y:Int} (hx:0≤x∧x<256) (hy:0≤y∧y<256):decide (UInt8.ofNat x.toNat<UInt8.ofNat y.toNat)=decide (x<y):=by
 have h:(UInt8.ofNat x.toNat<UInt8.ofNat y.toNat)↔x<y:=by
  rw[UInt8.lt_iff_toNat_lt,u8_toNat hx,u8_toNat hy]
  omega
 simp only[h]
theorem u8_eq {x y:Int} (hx:0≤x∧x<256) (hy:0≤y∧y<256):(UInt8.ofNat x.toNat==UInt8.ofNat y.toNat)=decide (x=y):=by
 have h:(UInt8.ofNat x.toNat=UInt8.ofNat y.toNat)↔x=y:=by
  rw[← UInt8.toNat_inj,u8_toNat hx,u8_toNat hy]
  omega
 rw[Bool.eq_iff_iff,beq_iff_eq,h,decide_eq_true_iff]
theorem lst_less (a b:Nat→Int):∀ (n i:Nat),(∀ j,j<n→0≤a (i+j)∧a (i+j)<256)→(∀ j,j<n→0≤b (i+j)∧b (i+j)<256)→Op.bytesLess (lstU a n i) (lstU b n i)=latF b a n i∧((lstU a n i==lstU b n i)=true↔∀ j,j<n→a (i+j)=b (i+j))
 | 0,_,_,_=>⟨rfl,by simp[lstU]⟩
 | n+1,i,ha,hb=>by
  have sa:∀ j,j<n→0≤a (i+1+j)∧a (i+1+j)<256:=fun j hj=>by have:=ha (j+1) (by omega);rwa [show i+(j+1)=i+1+j by omega] at this
  have sb:∀ j,j<n→0≤b (i+1+j)∧b (i+1+j)<256:=fun j hj=>by have:=hb (j+1) (by omega);rwa [show i+(j+1)=i+1+j by omega] at this
  have ih:=lst_less a b n (i+1) sa sb
  have h0:=ha 0 (by omega)
  have h1:=hb 0 (by omega)
  rw[Nat.add_zero] at h0 h1
  unfold lstU latF
  constructor
  ·rw[Op.bytesLess,u8_lt h0 h1,u8_eq h0 h1,ih.1]
   by_cases e:b i=a i
   ·rw[if_pos e,e];simp
   ·rw[if_neg e]
    have:¬ a i=b i:=fun h=>e h.symm
    simp[this]
  ·rw[List.cons_beq_cons,Bool.and_eq_true,u8_eq h0 h1,ih.2,decide_eq_true_iff]
   constructor
   ·rintro ⟨e,h⟩ j hj
    match j,hj with
    | 0,_=>rw[Nat.add_zero];exact e
    | j+1,hj=>have:=h j (by omega);rwa [show i+1+j=i+(j+1) by omega] at this
   ·intro h
    exact ⟨by have:=h 0 (by omega);rwa [Nat.add_zero] at this,fun j hj=>by have:=h (j+1) (by omega);rwa [show i+(j+1)=i+1+j by omega] at this⟩
theorem lst_gtr {a b:Nat→Int} (ha:Byts 12 a) (hb:Byts 12 b):(!(Op.bytesLess (lstU a 12 0) (lstU b 12 0) || lstU a 12 0==lstU b 12 0))=latF a b 12 0:=by
 have h:=lst_less a b 12 0 (fun j hj=>by rw[Nat.zero_add];exact ha j hj) (fun j hj=>by rw[Nat.zero_add];exact hb j hj)
 have h2:=lat_tri ha hb
 have h3:=lat_asym ha hb
 have h4:((lstU a 12 0==lstU b 12 0)=true)↔(latF a b 12 0=false∧latF b a 12 0=false):=by
  rw[h.2,← h2]
  simp only[Nat.zero_add]
 rw[h.1]
 generalize (lstU a 12 0==lstU b 12 0)=z at *
 generalize latF a b 12 0=x at *
 generalize latF b a 12 0=y at *
 cases x<;>cases y<;>cases z<;>simp_all
theorem sl12v (b:Nat) (w:World):(Instr.sliceAt 26 (.pointer (some ⟨b,0,none⟩)) none none none).run Tryz.prog w=.ok (.slice (some ⟨b,0,none⟩) 12 12) w:=by simp[go_sem]
theorem mkS_list (f:Nat→Int):(mkS 12 f).toList=lstU f 12 0:=by rw[Lib.toList_data];rfl
theorem gtr12 {a b:Nat→Int} (ha:Byts 12 a) (hb:Byts 12 b) (w:World):(binOp .gtr 9 (.string (mkS 12 a)) (.string (mkS 12 b))).run Tryz.prog w=.ok (.bool (latF a b 12 0)) w:=by
 rw[← lst_gtr ha hb,← mkS_list,← mkS_list]
 rfl
theorem Later_run (a b:Nat→Int) (w:World) (ha:Byts 12 a) (hb:Byts 12 b) :
  Calls Tryz.prog 32 #[.agg (WA .u8 12 a),.agg (WA .u8 12 b)] w fun e w'=>e=.returned (.bool (latF a b 12 0))∧Below w.heap.size w w':=by
 have g0:ArrAt ((w.alloc (.cells (WA .u8 12 a) 26)).alloc (.cells (WA .u8 12 b) 26)) w.heap.size .u8 26 12 a:=heap_alloc2_old w _ _
 have g1:ArrAt ((w.alloc (.cells (WA .u8 12 a) 26)).alloc (.cells (WA .u8 12 b) 26)) (w.heap.size+1) .u8 26 12 b:=heap_alloc2_new w _ _
 have hB:Below w.heap.size w ((w.alloc (.cells (WA .u8 12 a) 26)).alloc (.cells (WA .u8 12 b) 26)):=((Below.refl _ w).alloc (by simp) _).alloc (by simp) _
 have HA:=Hid.mk ha
 have HBB:=Hid.mk hb
 have HZ:=Hid.mk (gtr12 ha hb)
 generalize latF a b 12 0=z at *
 go_enter Tryz.func32,Tryz.ntmps32
 go_wp2_with fail
 refine wp_gen (fun v=>ArrAt v w.heap.size .u8 26 12 a∧ArrAt v (w.heap.size+1) .u8 26 12 b∧Below w.heap.size w v) ⟨g0,g1,hB⟩ ?_
 clear g0 g1 hB
 rintro v0 ⟨g0,g1,hB⟩
 have HG0:Hid (∀ u,Below v0.heap.size v0 u→ArrAt u w.heap.size .u8 26 12 a):=Hid.mk (fun u hu=>g0.kept hu)
 have HG1:Hid (∀ u,Below v0.heap.size v0 u→ArrAt u (w.heap.size+1) .u8 26 12 b):=Hid.mk (fun u hu=>g1.kept hu)
 refine wp_region3 (Below v0.heap.size v0) v0.heap.size
   ([]:List (Nat×Cont))
   [kv (.slice (some ⟨w.heap.size,0,none⟩) 12 12),kv (.string (mkS 12 a)),kv (.slice (some ⟨(w.heap.size+1),0,none⟩) 12 12),kv (.string (mkS 12 b)),kv (.bool z),kv (.bool z)]
   [.none,.none,.none,.none,.none,.none]
   [some 5,some 6,some 7,some 8,some 9,some 4]
   [(2,.pointer (some ⟨w.heap.size,0,none⟩)),(3,.pointer (some ⟨(w.heap.size+1),0,none⟩))]
   [[],[.slot 0],[],[.slot 2],[.slot 1,.slot 3],[.slot 4]]
   [.slot 5] [5,6,7,8,9,4]
   rfl (by kernel_rfl) ⟨rfl,rfl,trivial⟩ (Below.refl _ v0).drew (Nat.le_refl _) trivial trivial (below_G (Nat.le_refl _) trivial)
   ⟨
    (fun _ _ ww _ _ _ fr _=>sV (exec_sl rfl fr.1 (sl12v w.heap.size ww))),
    (fun _ _ ww _ hS _ _ kn=>sV (exec_conv rfl kn.1 (str_back 12 w.heap.size 12 ww 12 a (HG0.out ww hS).row HA.out rfl))),
    (fun _ _ ww _ _ _ fr _=>sV (exec_sl rfl fr.2.1 (sl12v (w.heap.size+1) ww))),
    (fun _ _ ww _ hS _ _ kn=>sV (exec_conv rfl kn.1 (str_back 12 (w.heap.size+1) 12 ww 12 b (HG1.out ww hS).row HBB.out rfl))),
    (fun _ _ ww _ _ _ _ kn=>sV (exec_bin2 rfl kn.1 kn.2.1 rfl (HZ.out ww))),
    (fun _ _ _ _ _ _ _ kn=>sV (exec_assign rfl kn.1)),
    trivial⟩ ?_
 intro vs own v5 hB5 hs5 kn inj
 clear inj hs5 HG0 HG1
 have e4:vs 4=_:=kn.1
 clear kn
 simp only[putAll,Act.put,List.setIfInBounds_toArray,List.set_cons_zero,List.set_cons_succ,e4]
 go_wp2_with fail
 go_ret
 exact ⟨rfl,hB.trans (hB5.mono hB.size)⟩
def hiD (N:Int) (k j:Nat):Int:=N/256 ^ (k-1-j)%256
theorem hiD_b (N:Int) (k n:Nat):Byts n (hiD N k):=fun j _=>by unfold hiD;omega
theorem highest_run (N:Int) (k:Nat) (w:World) (hk:k≤8) :
  Calls Tryz.prog 56 #[.int .u64 N,.int .i64 (k:Int)] w fun e w'=>e=.returned (.string (mkS k (hiD N k)))∧Below w.heap.size w w':=by
 have hkI:(k:Int)≤8:=by omega
 go_enter Tryz.func56,Tryz.ntmps56
 go_wp2_with (refine wl_makeB (by rfl) (by rfl) (by omega) ?_;intro v1 g1 hB;refine Hid.out ?_)
 refine Hid.mk ?_
 go_wp2_with fail
 go_loopg [11] k (fun gm iv v=>∃ i:Nat,Hid (gm+i=k)∧iv=.int .i64 (i:Int)∧ArrAt v w.heap.size .u8 5 k (fun j=>if j<i then hiD N k j else 0)∧Below w.heap.size w v)
 case atStart=>exact ⟨0,Hid.mk rfl,rfl,g1.congr (fun j _=>by rw[if_neg (by omega)]),hB⟩
 case round =>
  clear g1 hB
  obtain ⟨i,HI,rfl,g1,hB⟩:=hrel
  have hi8:i≤k:=by have:=HI.out;omega
  by_cases hil:i<k
  ·have hiI:(i:Int)<(k:Int):=by omega
   have c0:=g1.cell i hil
   have f0:=g1.free i
   have hpw:(2:Int) ^ (8*(k-1-i))=256 ^ (k-1-i):=by rw[Int.pow_mul];rfl
   have g2:=Hid.mk ((g1.set i (N/2 ^ (8*(k-1-i))%256) hil).congr (s':=fun j=>if j<i+1 then hiD N k j else 0) (fun j _=>by
    unfold upd
    by_cases e:j=i
    ·subst e;rw[if_pos rfl,if_pos (by omega),hpw];rfl
    ·rw[if_neg e]
     show (if j<i then hiD N k j else 0)=_
     by_cases h:j<i
     ·rw[if_pos h,if_pos (by omega)]
     ·rw[if_neg h,if_neg (by omega)]))
   clear hpw
   go_wp2_with fail
   go_roundg (k-(i+1))
   case rel=>exact ⟨i+1,Hid.mk (by omega),by go_num,g2.out,Below.setCell (p:=⟨w.heap.size,i,none⟩) hB (by simp) _⟩
   case measure=>have:=HI.out;omega
  ·have hi2:i=k:=by omega
   subst hi2
   replace g1:=g1.congr (s':=hiD N i) (fun j hj=>by rw[if_pos hj])
   have hcv:=str_back i w.heap.size i wr i (hiD N i) g1.row (hiD_b N i i) rfl
   go_wp2_with fail
   go_ret
   exact ⟨rfl,hB⟩
theorem stm_cat (n:Int):∀ j,j<12→txt (mkS 8 (hiD (4611686018427387914+nowC n/1000) 8)++mkS 4 (hiD (nowC n%1000*1000000) 4)) j=stmF n j:=fun j hj=>by
 rw[txt_append,mkS_size]
 unfold stmF
 by_cases h:j<8
 ·rw[if_pos h,if_pos h,txt_mkS (hiD_b _ 8 8 j h) h]
  unfold hiD
  rw[show 8-1-j=7-j by omega]
 ·rw[if_neg h,if_neg h,txt_mkS (hiD_b _ 4 4 (j-8) (by omega)) (by omega)]
  unfold hiD
  rw[show 4-1-(j-8)=11-j by omega]
theorem exec_max {a:Act} {o:Oper} {w:World} {x y:Operand} (ho:o.op=.call { callee:=.builtin .max,args:=#[x,y],argTypes:=#[3,3] }) {m n:Int} (hx:a.eval x=.int .i64 m) (hy:a.eval y=.int .i64 n):(execOp a.eval o).run Tryz.prog w=.ok (.value (.int .i64 (max m n))) w:=by
 have h:(if n > m then n else m)=max m n:=by split<;>omega
 simp[execOp,ho,resolve,invoke,builtin,hx,hy,run_max_int2,h]
theorem exec_min {a:Act} {o:Oper} {w:World} {x y:Operand} (ho:o.op=.call { callee:=.builtin .min,args:=#[x,y],argTypes:=#[3,3] }) {m n:Int} (hx:a.eval x=.int .i64 m) (hy:a.eval y=.int .i64 n):(execOp a.eval o).run Tryz.prog w=.ok (.value (.int .i64 (min m n))) w:=by
 have h:(if n<m then n else m)=min m n:=by split<;>omega
 simp[execOp,ho,resolve,invoke,builtin,hx,hy,run_min_int2,h]
theorem Stamp_run (n:Int) (w:World):Calls Tryz.prog 17 #[.int .i64 n] w fun e w'=>e=.returned (.agg (WA .u8 12 (stmF n)))∧Below w.heap.size w w':=by
 have hN:=nowC_b n
 have hmx:min (max n 0) 1099511627776=nowC n:=by unfold nowC;split<;>(try split)<;>omega
 have g0:ArrAt (w.alloc (.cells (WA .u8 12 fun _=>0) 26)) w.heap.size .u8 26 12 (fun _=>0):=heap_alloc_new w _
 have hB:Below w.heap.size w (w.alloc (.cells (WA .u8 12 fun _=>0) 26)):=(Below.refl _ w).alloc (by simp) _
 have HS:=Hid.mk (stm_cat n)
 have HMX:=Hid.mk hmx
 clear hmx
 generalize nowC n=N at *
 have hq:N.tdiv 1000=N/1000:=Int.tdiv_eq_ediv_of_nonneg hN.1
 have hr:N.tmod 1000=N%1000:=Int.tmod_eq_emod_of_nonneg hN.1
 obtain ⟨A,hA⟩:∃ A,A=N/1000:=⟨_,rfl⟩
 obtain ⟨B,hBd⟩:∃ B,B=N%1000:=⟨_,rfl⟩
 rw[← hA] at hq HS
 rw[← hBd] at hr HS
 have hA2:0≤A∧A≤1099511628:=by omega
 have hB2:0≤B∧B<1000:=by omega
 clear hA hBd
 go_enter Tryz.func17,Tryz.ntmps17
 go_wp2_with (first|(refine wl_value rfl (exec_max rfl (by rfl) (by rfl)) ?_)|(refine wl_value rfl (exec_min rfl (by rfl) (by rfl)) ?_;rw[HMX.out]))
 refine (highest_run (4611686018427387914+A) 8 _ (by omega)).mono ?_
 rintro e v1 ⟨rfl,hb1⟩
 replace g0:=g0.kept hb1
 replace hB:=hB.trans (hb1.mono hB.size)
 clear hb1
 go_wp2_with fail
 refine (highest_run (B*1000000) 4 _ (by omega)).mono ?_
 rintro e v2 ⟨rfl,hb2⟩
 replace g0:=g0.kept hb2
 replace hB:=hB.trans (hb2.mono hB.size)
 clear hb2
 have HL:Hid ((mkS 8 (hiD (4611686018427387914+A) 8)).size+(mkS 4 (hiD (B*1000000) 4)).size≤9223372036854775807):=Hid.mk (by rw[mkS_size,mkS_size];omega)
 have HE:Hid ((mkS 8 (hiD (4611686018427387914+A) 8)++mkS 4 (hiD (B*1000000) 4)).size=12):=Hid.mk (by rw[ByteArray.size_append,mkS_size,mkS_size])
 generalize mkS 8 (hiD (4611686018427387914+A) 8)=X at *
 generalize mkS 4 (hiD (B*1000000) 4)=Y at *
 go_wp2_with (first|(refine wl_value rfl (exec_catS rfl (by rfl) (by rfl) HL.out) ?_)|(refine wl_bytes (by rfl) HE.out ?_;intro v3 cp r3 hb3;refine Hid.out ?_))
 have hlt:=g0.lt
 replace g0:=g0.kept hb3
 replace hB:=hB.trans (hb3.mono hB.size)
 have hr3:=row_range r3
 clear hb3 r3
 refine Hid.mk ?_
 go_wp2_with (first|(refine wl_value rfl (exec_toa rfl (by rfl) (toa12 _ _ _)) ?_)|(refine wl_value rfl (exec_ldmid rfl isA12 (by rfl) hr3) ?_)|(refine st_arr isA12 g0 (by rfl) (by rfl) ?_;intro v7 g7 o7;refine Hid.out ?_))
 refine Hid.mk ?_
 go_wp2_with fail
 replace g7:=g7.congr HS.out
 exact bodyPost_ret (res_arr Tryz.results17 isA12 g7 (by rfl)) rfl ⟨rfl,hB.trans (o7.below (Nat.le_refl _))⟩
def one32 (n:Int) (j:Nat):Int:=if j=0 then n else 0
theorem one32_b {n:Int} (h:0≤n∧n<256):Byts 32 (one32 n):=fun j _=>by unfold one32;split<;>omega
theorem zer_b (k:Nat):Byts k (fun _=>0):=fun _ _=>⟨Int.le_refl 0,of_decide_eq_true rfl⟩
theorem run_b0 (w:World):(Instr.build 22 #[]).run Tryz.prog w=.ok (.agg (WA .u8 32 fun _=>0)) w:=by kernel_rfl
theorem run_b12 (w:World):(Instr.build 26 #[]).run Tryz.prog w=.ok (.agg (WA .u8 12 fun _=>0)) w:=by kernel_rfl
theorem run_b1 (w:World):(Instr.build 22 #[(0,.int .u8 1)]).run Tryz.prog w=.ok (.agg (WA .u8 32 (one32 1))) w:=by kernel_rfl
theorem run_b2 (w:World):(Instr.build 22 #[(0,.int .u8 2)]).run Tryz.prog w=.ok (.agg (WA .u8 32 (one32 2))) w:=by kernel_rfl
theorem exec_b0 {a:Act} {o:Oper} {w:World} (ho:o.op=.build 22 #[]):(execOp a.eval o).run Tryz.prog w=.ok (.value (.agg (WA .u8 32 fun _=>0))) w:=by
 have h:=run_b0 w
 unfold execOp
 simp only[ho,List.map_toArray,List.map_nil,Sem.run_bind,h,Result.andThen_ok,Sem.run_pure]
theorem exec_b12 {a:Act} {o:Oper} {w:World} (ho:o.op=.build 26 #[]):(execOp a.eval o).run Tryz.prog w=.ok (.value (.agg (WA .u8 12 fun _=>0))) w:=by
 have h:=run_b12 w
 unfold execOp
 simp only[ho,List.map_toArray,List.map_nil,Sem.run_bind,h,Result.andThen_ok,Sem.run_pure]
theorem exec_b1 {a:Act} {o:Oper} {w:World} (ho:o.op=.build 22 #[(0,.const (.int .u8 1))]):(execOp a.eval o).run Tryz.prog w=.ok (.value (.agg (WA .u8 32 (one32 1)))) w:=by
 have h:=run_b1 w
 unfold execOp
 simp only[ho,List.map_toArray,List.map_cons,List.map_nil,Act.eval,Sem.run_bind,h,Result.andThen_ok,Sem.run_pure]
theorem exec_b2 {a:Act} {o:Oper} {w:World} (ho:o.op=.build 22 #[(0,.const (.int .u8 2))]):(execOp a.eval o).run Tryz.prog w=.ok (.value (.agg (WA .u8 32 (one32 2)))) w:=by
 have h:=run_b2 w
 unfold execOp
 simp only[ho,List.map_toArray,List.map_cons,List.map_nil,Act.eval,Sem.run_bind,h,Result.andThen_ok,Sem.run_pure]
theorem zeroHandV (w:World):(zeroValue 31).run Tryz.prog w=.ok (.agg (SC 162 hanZ)) w:=by kernel_rfl
theorem wl_allocH {ops:Array Oper} {rest:List Oper} {d:Option Tmp} {t:TypeId} {ps:String} {af:Array Edge} {a:Act} {w:World} {Q:Exit→Act→World→Prop}
  (h:∀ w',SAt w' w.heap.size 31 162 hanZ→Below w.heap.size w w'→wpList Tryz.prog ops Q rest (a.put d (.pointer (some ⟨w.heap.size,0,none⟩))) w') :
  wpList Tryz.prog ops Q ({ dst:=d,op:=.alloc 31,type:=t,pos:=ps,after:=af,guard:=none }::rest) a w :=
 wl_act rfl (act_alloc zeroHandV rfl (fun w' hb hg=>h w' hg hb))
theorem tN_zero (k:Int):Fld.tN k 0=0:=by
 unfold Fld.tN
 have h:Fld.ofI (0%Fld.W255)=0:=Fld.fp_ext (by rw[Fld.ofI_val];decide +kernel)
 rw[h,Fld.lad_zero]
 rfl
theorem shZ_zero (k:Nat→Int):shZ k (fun _=>0)=false:=by
 unfold shZ
 have h:nm (fun _=>0)=0:=by decide +kernel
 rw[h,tN_zero]
 rfl
theorem Accept_none (w:World) (hE:Env w):Calls Tryz.prog 11 #[.agg (WA .u8 32 fun _=>0),.string ⟨#[]⟩] w fun e w'=>e=.returned (.tuple #[.agg (SC 162 hanZ),.agg (WA .u8 12 (fun _=>0)),.int .i64 10])∧Below w.heap.size w w' :=
 Accept_no (fun _=>0) ⟨#[]⟩ 10 w hE (fun u hu=>accept_form (fun _=>0) (begH (pubF fun _=>0)) begC ⟨#[]⟩ u hu (zer_b 32) (begC_b 32) (begH_b _ 32) (fun h=>absurd h.1 (by decide)) (fun u hu=>beginning_run _ u hu (pubF_b _ 32)))
theorem Begin_none (O E T:Nat→Int) (ix:Int) (w:World) (hE:Env w) (hO:Byts 32 O) (hEk:Byts 32 E) (hT:Byts 12 T):Calls Tryz.prog 9 #[.agg (WA .u8 32 O),.agg (WA .u8 32 fun _=>0),.agg (WA .u8 32 E),.agg (WA .u8 12 T),.int .u32 ix] w fun e w'=>e=.returned (.tuple #[.string ⟨#[]⟩,.agg (SC 162 hanZ),.int .i64 18])∧Below w.heap.size w w' :=
 Begin_no O (fun _=>0) E T ix 18 w hE (fun u hu=>begin_no1 O (fun _=>0) E T (begH fun _=>0) begC ix u hu hO (zer_b 32) hEk hT (begC_b 32) (begH_b _ 32) (shZ_zero E) (fun u hu=>beginning_run _ u hu (zer_b 32)))
theorem awake7_run (w:World) (hE:Env w):Calls Tryz.prog 8 #[] w fun e w'=>e=.returned (.bool true)∧Below w.heap.size w w':=by
 have hB:Below w.heap.size w w:=Below.refl _ w
 go_enter Tryz.func8,Tryz.ntmps8
 go_wp2_with (refine wl_value rfl (exec_b0 rfl) ?_)
 refine (Accept_none _ hE).mono ?_
 rintro x v1 ⟨rfl,hb⟩
 replace hE:=hE.kept hb
 replace hB:=hB.trans (hb.mono hB.size)
 clear hb
 have l1:=hB.size
 have k1:=hE.two
 go_wp2_with (refine wl_allocH ?_;intro v2 g1 hb;refine Hid.out ?_)
 replace hE:=hE.kept hb
 replace hB:=hB.trans (hb.mono hB.size)
 clear hb
 refine Hid.mk ?_
 have l2:=hB.size
 have k2:=hE.two
 have m2:=g1.lt
 go_wp2_with (refine wl_alloc12 ?_;intro v3 g2 hb;refine Hid.out ?_)
 replace hE:=hE.kept hb
 replace hB:=hB.trans (hb.mono hB.size)
 replace g1:=g1.kept hb
 clear hb
 refine Hid.mk ?_
 go_wp2_with (refine st_st isHand (hanV_one _ _ _ _ _ _ _) g1 (by rfl) (by rfl) ?_;intro v4 g4 o4;refine Hid.out ?_)
 replace hE:=hE.only o4 (by omega)
 replace hB:=hB.trans (o4.below l1)
 replace g2:=g2.only o4 (by omega)
 clear o4 g1 g4
 refine Hid.mk ?_
 go_wp2_with (refine st_arr isArr12 g2 (by rfl) (by rfl) ?_;intro v5 g5 o5;refine Hid.out ?_)
 replace hE:=hE.only o5 (by omega)
 replace hB:=hB.trans (o5.below l2)
 clear o5 g2 g5
 refine Hid.mk ?_
 go_wp2_with (first|(refine wl_value rfl (exec_b0 rfl) ?_)|(refine wl_value rfl (exec_b1 rfl) ?_)|(refine wl_value rfl (exec_b2 rfl) ?_)|(refine wl_value rfl (exec_b12 rfl) ?_))
 refine (Begin_none (one32 1) (one32 2) _ 3 _ hE (one32_b (by omega)) (one32_b (by omega)) (zer_b 12)).mono ?_
 rintro x v6 ⟨rfl,hb⟩
 replace hE:=hE.kept hb
 replace hB:=hB.trans (hb.mono hB.size)
 clear hb
 have l6:=hB.size
 have k6:=hE.two
 go_wp2_with (refine wl_allocH ?_;intro v7 g7 hb;refine Hid.out ?_)
 replace hE:=hE.kept hb
 replace hB:=hB.trans (hb.mono hB.size)
 clear hb
 refine Hid.mk ?_
 go_wp2_with (refine st_st isHand (hanV_one _ _ _ _ _ _ _) g7 (by rfl) (by rfl) ?_;intro v8 g8 o8;refine Hid.out ?_)
 replace hE:=hE.only o8 (by omega)
 replace hB:=hB.trans (o8.below l6)
 clear o8 g7 g8
 refine Hid.mk ?_
 go_wp2_with fail
 refine (Stamp_run 1500 _).mono ?_
 rintro x v9 ⟨rfl,hb⟩
 replace hB:=hB.trans (hb.mono hB.size)
 clear hb hE
 have l9:=hB.size
 go_wp2_with (refine wl_alloc12 ?_;intro v10 g10 hb;refine Hid.out ?_)
 replace hB:=hB.trans (hb.mono hB.size)
 clear hb
 refine Hid.mk ?_
 go_wp2_with (refine st_arr isArr12 g10 (by rfl) (by rfl) ?_;intro v11 g11 o11;refine Hid.out ?_)
 replace hB:=hB.trans (o11.below l9)
 clear o11 g10
 have s7:stmF 1500 7=11:=by decide +kernel
 have s8:stmF 1500 8=29:=by decide +kernel
 have c7:=g11.cell 7 (by omega)
 have c8:=g11.cell 8 (by omega)
 rw[s7] at c7
 rw[s8] at c8
 have t21:=lat_stm 2 1 (by omega) (by omega)
 have t11:=lat_stm 1 1 (by omega) (by omega)
 have HS:=fun n=>stmF_b n 12
 refine Hid.mk ?_
 go_wp2_with fail
 refine (Stamp_run 2 _).mono ?_
 rintro x v12 ⟨rfl,hb⟩
 replace hB:=hB.trans (hb.mono hB.size)
 clear hb
 go_wp2_with fail
 refine (Stamp_run 1 _).mono ?_
 rintro x v13 ⟨rfl,hb⟩
 replace hB:=hB.trans (hb.mono hB.size)
 clear hb
 go_wp2_with fail
 refine (Later_run (stmF 2) (stmF 1) _ (HS 2) (HS 1)).mono ?_
 rintro x v14 ⟨rfl,hb⟩
 replace hB:=hB.trans (hb.mono hB.size)
 clear hb
 rw[t21]
 go_wp2_with fail
 refine (Stamp_run 1 _).mono ?_
 rintro x v15 ⟨rfl,hb⟩
 replace hB:=hB.trans (hb.mono hB.size)
 clear hb
 go_wp2_with fail
 refine (Stamp_run 1 _).mono ?_
 rintro x v16 ⟨rfl,hb⟩
 replace hB:=hB.trans (hb.mono hB.size)
 clear hb
 go_wp2_with fail
 refine (Later_run (stmF 1) (stmF 1) _ (HS 1) (HS 1)).mono ?_
 rintro x v17 ⟨rfl,hb⟩
 replace hB:=hB.trans (hb.mono hB.size)
 clear hb
 rw[t11]
 go_wp2_with fail
 go_ret
 exact ⟨rfl,hB⟩
theorem exec_neb {a:Act} {o:Oper} {w:World} {x y:Operand} (ho:o.op=.binOp .neq 4 x y 4) {p q z:Bool} (hx:a.eval x=.bool p) (hy:a.eval y=.bool q) (hz:(p != q)=z):(execOp a.eval o).run Tryz.prog w=.ok (.value (.bool z)) w :=
 exec_bin2 ho hx hy rfl (by rw[← hz];simp[go_sem];cases p<;>cases q<;>rfl)
def sndT (m:ByteArray) (to:Nat→Int) (c:ByteArray):ByteArray:=if c.size=0 then mkS 16 (fun _=>0) else (keyedT 16 c (m++mrkT m to)).1
theorem marksT_eq (m:ByteArray) (to:Nat→Int) (c:ByteArray):marksT m to c=m++mrkT m to++sndT m to c:=rfl
theorem sndT_size (m:ByteArray) (to:Nat→Int) (c:ByteArray) (hc:c.size=0∨c.size=16):(sndT m to c).size=16:=by
 unfold sndT
 by_cases h:c.size=0
 ·rw[if_pos h,mkS_size]
 ·rw[if_neg h]
  exact keyed_size _ _ (by omega)
theorem marksT_size (m:ByteArray) (to:Nat→Int) (c:ByteArray) (hc:c.size=0∨c.size=16):(marksT m to c).size=m.size+32:=by
 rw[marksT_eq,ByteArray.size_append,ByteArray.size_append,mrkT_size,sndT_size m to c hc]
section
variable (m:ByteArray) (to:Nat→Int) (c:ByteArray) (hc:c.size=0∨c.size=16)
include hc
theorem marks_first:(marksT m to c).extract ((marksT m to c).size-32) ((marksT m to c).size-32+16)=mrkT m to:=by
 rw[marksT_size m to c hc,marksT_eq,ByteArray.append_assoc]
 exact ext_at (by omega) (by rw[mrkT_size])
theorem marks_whole (hm:m.size=116∨m.size=60):isWhole (marksT m to c)=true:=by
 unfold isWhole
 rw[marksT_size m to c hc]
 exact decide_eq_true (by omega)
theorem marks_marked (hm:m.size=116∨m.size=60):MarkedR (marksT m to c) to=true:=by
 unfold MarkedR
 rw[marks_whole m to c hc hm,marks_first m to c hc,Bool.true_and]
 refine decide_eq_true ?_
 rw[marksT_size m to c hc,Nat.add_sub_cancel,marksT_eq,ByteArray.append_assoc]
 rw[ByteArray.extract_append_eq_left rfl]
theorem marks_cookied (hm:m.size=116∨m.size=60) (h0:¬ c.size=0):CookiedR (marksT m to c) c=true:=by
 have h16:c.size=16:=by omega
 unfold CookiedR
 rw[marks_whole m to c hc hm,decide_eq_true h16,Bool.true_and,Bool.true_and]
 refine decide_eq_true ?_
 rw[marksT_size m to c hc,marksT_eq]
 have hs:(m++mrkT m to).size=m.size+16:=by rw[ByteArray.size_append,mrkT_size]
 rw[ByteArray.extract_append_eq_left (by omega),ByteArray.extract_append_eq_right (by omega) (by rw[sndT_size m to c hc];omega)]
 unfold sndT
 rw[if_neg h0]
end
theorem CookieR_size (s:Nat→Int) (v:Bool) (B:Nat→Int) (p:Int):(CookieR s v B p).size=16:=keyed_size _ _ (by rw[mkS_size];omega)
theorem box_found (k nn:Nat→Int) (m c:ByteArray) (hw:isWhole m=true) (hc:c.size=16) (hnn:txt (mkS 24 nn)=nn) :
  (BoxR k nn m c).2=0∧UnboxR k (m.extract (m.size-32) (m.size-32+16)) (BoxR k nn m c).1=(c,0):=by
 have hms:m.size=148∨m.size=92:=by unfold isWhole at hw;exact of_decide_eq_true hw
 have hmk:(m.extract (m.size-32) (m.size-32+16)).size=16:=by rw[ByteArray.size_extract];omega
 have h48:(m.extract 4 8).size=4:=by rw[ByteArray.size_extract];omega
 obtain ⟨mk,hmke⟩:∃ mk,m.extract (m.size-32) (m.size-32+16)=mk:=⟨_,rfl⟩
 rw[hmke] at hmk
 obtain ⟨Z,hZ⟩:∃ Z,boxT (der (ckK k) nn) (tailN fun j=>nn (16+j)) c mk=Z:=⟨_,rfl⟩
 have hZs:Z.size=32:=by rw[← hZ,boxT_size,hc]
 have hb:BoxR k nn m c=(⟨#[3,0,0,0]⟩++m.extract 4 8++mkS 24 nn++Z,0):=by
  unfold BoxR
  rw[if_neg (by rw[hw];decide),if_neg (not_not_intro hc),hmke,hZ]
 refine ⟨by rw[hb],?_⟩
 rw[hb,hmke]
 show UnboxR k mk (⟨#[3,0,0,0]⟩++m.extract 4 8++mkS 24 nn++Z)=(c,0)
 obtain ⟨M,hM⟩:∃ M,(⟨#[3,0,0,0]⟩:ByteArray)++m.extract 4 8++mkS 24 nn++Z=M:=⟨_,rfl⟩
 have hMs:M.size=64:=by rw[← hM,ByteArray.size_append,ByteArray.size_append,ByteArray.size_append,four1,h48,mkS_size,hZs]
 have e0:M.extract 0 4=⟨#[3,0,0,0]⟩:=by
  rw[← hM,ByteArray.append_assoc,ByteArray.append_assoc]
  exact ByteArray.extract_append_eq_left rfl
 have e1:M.extract 8 32=mkS 24 nn:=by
  rw[← hM,ByteArray.append_assoc]
  exact ext_at (by rw[ByteArray.size_append,h48];rfl) (by rw[mkS_size])
 have e2:M.extract 32 M.size=Z:=by
  rw[hMs,← hM]
  exact ByteArray.extract_append_eq_right (by rw[ByteArray.size_append,ByteArray.size_append,four1,h48,mkS_size]) (by rw[ByteArray.size_append,ByteArray.size_append,four1,h48,mkS_size,hZs])
 rw[hM]
 unfold UnboxR
 rw[if_neg (not_not_intro hMs),if_neg (not_not_intro e0),if_neg (not_not_intro hmk),e1,e2,hnn,← hZ]
 exact open_seal _ _ _ _
theorem exec_eqSF {a:Act} {o:Oper} {w:World} {x y:Operand} (ho:o.op=.binOp .eql 9 x y 9) {s t:ByteArray} (hx:a.eval x=.string s) (hy:a.eval y=.string t) (h:¬ s=t):(execOp a.eval o).run Tryz.prog w=.ok (.value (.bool false)) w :=
 exec_bin2 ho hx hy rfl (by
  have:(s.toList==t.toList)=false:=by
   rw[Lib.toList_data,Lib.toList_data]
   exact beq_false_of_ne (fun e=>h (ByteArray.ext (by simpa using e)))
  simp[go_sem,this])
theorem hasMarks_run (m:ByteArray) (w:World):Calls Tryz.prog 61 #[.string m] w fun e w'=>e=.returned (.bool (isWhole m))∧Below w.heap.size w w':=by
 have HW:Hid (isWhole m=decide (m.size=148∨m.size=92)):=Hid.mk rfl
 generalize isWhole m=z at *
 by_cases h1:m.size=148
 ·have e:z=true:=by rw[HW.out];simp[h1]
  subst e
  go_enter Tryz.func61,Tryz.ntmps61
  go_wp2_with fail
  go_ret
  exact ⟨rfl,(Below.refl _ _)⟩
 ·by_cases h2:m.size=92
  ·have e:z=true:=by rw[HW.out];simp[h2]
   subst e
   go_enter Tryz.func61,Tryz.ntmps61
   go_wp2_with fail
   go_ret
   exact ⟨rfl,(Below.refl _ _)⟩
  ·have e:z=false:=by rw[HW.out];simp[h1,h2]
   subst e
   have e1:((m.size:Int)==148)=false:=beq_false_of_ne (by omega)
   have e2:((m.size:Int)==92)=false:=beq_false_of_ne (by omega)
   go_enter Tryz.func61,Tryz.ntmps61
   go_wp2_with fail
   go_ret
   exact ⟨by first | rfl | (show Ending.returned (.bool (((m.size:Int)==148) || ((m.size:Int)==92)))=_;rw[e1,e2];rfl),Below.refl _ _⟩
theorem res_ttt {fn:Func} {p q r:Tmp} (h:fn.results=#[.tmp p,.tmp q,.tmp r]) {tmps:Array Value} {w:World} {x y z:Value} (hp:tmps.getD p undef=x) (hq:tmps.getD q undef=y) (hr:tmps.getD r undef=z):(results fn tmps).run Tryz.prog w=.ok (.tuple #[x,y,z]) w:=by
 have hp':tmps[p]?.getD undef=x:=by simpa using hp
 have hq':tmps[q]?.getD undef=y:=by simpa using hq
 have hr':tmps[r]?.getD undef=z:=by simpa using hr
 simp[results,h,hp',hq',hr']
theorem apart_run (m:ByteArray) (n:Nat) (w:World) (hn:m.size=n+32) (hs:n≤1000):Calls Tryz.prog 62 #[.string m] w fun e w'=>e=.returned (.tuple #[.string (m.extract 0 n),.string (m.extract n (n+16)),.string (m.extract (n+16) m.size)])∧Below w.heap.size w w':=by
 have hI:(m.size:Int)-32=(n:Int):=by omega
 have hb:(m.size:Int)≤2000:=by omega
 have HN:=Hid.mk hs
 have HS1:=Hid.mk (fun u=>strH m n u (by omega))
 have HS2:=Hid.mk (fun u=>strB m n (n+16) u (by omega) (by omega))
 have HS3:=Hid.mk (fun u=>strL m (n+16) u (by omega))
 clear hn
 go_enter Tryz.func62,Tryz.ntmps62
 go_wp2_with fail
 refine wp_region3 (Below w.heap.size w) w.heap.size
   ([]:List (Nat×Cont))
   [kv (.string m),kv (.int .i64 (n:Int)),kv (.string (m.extract 0 n)),kv (.string m),kv (.int .i64 (n:Int)),kv (.int .i64 (n:Int)),kv (.int .i64 ((n:Int)+16)),kv (.string (m.extract n (n+16))),kv (.string m),kv (.int .i64 (n:Int)),kv (.int .i64 ((n:Int)+16)),kv (.string (m.extract (n+16) m.size)),kv (.string (m.extract 0 n)),kv (.string (m.extract n (n+16))),kv (.string (m.extract (n+16) m.size))]
   [.none,.none,.none,.none,.none,.none,.none,.none,.none,.none,.none,.none,.none,.none,.none]
   [some 9,some 10,some 11,some 12,some 13,some 14,some 15,some 16,some 17,some 18,some 19,some 20,some 2,some 3,some 4]
   [(0,.string m),(5,.int .i64 (n:Int))]
   [[],[],[.slot 0,.slot 1],[],[],[],[.slot 5],[.slot 3,.slot 4,.slot 6],[],[],[.slot 9],[.slot 8,.slot 10],[.slot 2],[.slot 7],[.slot 11]]
   [.slot 12,.slot 13,.slot 14] [9,10,11,12,13,14,15,16,17,18,19,20,2,3,4]
   rfl (by kernel_rfl) ⟨rfl,rfl,trivial⟩ (Below.refl _ w).drew (Nat.le_refl _) trivial trivial (below_G (Nat.le_refl _) trivial)
   ⟨
    (fun _ _ _ _ _ _ fr _=>sV (exec_move rfl fr.1)),
    (fun _ _ _ _ _ _ fr _=>sV (exec_move rfl fr.2.1)),
    (fun _ _ ww _ _ _ _ kn=>sV (exec_slH rfl kn.1 kn.2.1 (HS1.out ww))),
    (fun _ _ _ _ _ _ fr _=>sV (exec_move rfl fr.1)),
    (fun _ _ _ _ _ _ fr _=>sV (exec_move rfl fr.2.1)),
    (fun _ _ _ _ _ _ fr _=>sV (exec_move rfl fr.2.1)),
    (fun _ _ _ _ _ _ _ kn=>sV (exec_add (n:=16) rfl kn.1 rfl (by have:=HN.out;omega) (by have:=HN.out;omega))),
    (fun _ _ ww _ _ _ _ kn=>sV (exec_slB rfl kn.1 kn.2.1 kn.2.2.1 (HS2.out ww))),
    (fun _ _ _ _ _ _ fr _=>sV (exec_move rfl fr.1)),
    (fun _ _ _ _ _ _ fr _=>sV (exec_move rfl fr.2.1)),
    (fun _ _ _ _ _ _ _ kn=>sV (exec_add (n:=16) rfl kn.1 rfl (by have:=HN.out;omega) (by have:=HN.out;omega))),
    (fun _ _ ww _ _ _ _ kn=>sV (exec_slL rfl kn.1 kn.2.1 (HS3.out ww))),
    (fun _ _ _ _ _ _ _ kn=>sV (exec_assign rfl kn.1)),
    (fun _ _ _ _ _ _ _ kn=>sV (exec_assign rfl kn.1)),
    (fun _ _ _ _ _ _ _ kn=>sV (exec_assign rfl kn.1)),
    trivial⟩ ?_
 intro vs own v5 hB5 hs5 kn inj
 clear inj hs5
 have e2:vs 2=_:=kn.1
 have e3:vs 3=_:=kn.2.1
 have e4:vs 4=_:=kn.2.2.1
 clear kn
 simp only[putAll,Act.put,List.setIfInBounds_toArray,List.set_cons_zero,List.set_cons_succ,e2,e3,e4]
 go_wp2_with fail
 exact bodyPost_ret (res_ttt Tryz.results62 (by rfl) (by rfl) (by rfl)) rfl ⟨rfl,hB5⟩
theorem markBy_run (key:ByteArray) (v:Value) (cnt:Nat) (ts:Nat→ByteArray) (w:World) (hE:Env w) (hv:Strs w v cnt ts) (hcn:cnt≤1000) (hsz:(joinB ts cnt).size≤562949953421312) :
  Calls Tryz.prog 67 #[.string key,v] w fun e w'=>e=.returned (.string (keyedT 16 key (joinB ts cnt)).1)∧Below w.heap.size w w':=by
 have hK:=Keyed_run 16 key v cnt ts w hE.1 hv (by omega) hsz
 generalize keyedT 16 key (joinB ts cnt)=Z at *
 go_enter Tryz.func67,Tryz.ntmps67
 go_wp2_with fail
 refine hK.mono ?_
 rintro x v1 ⟨rfl,hb⟩
 go_wp2_with fail
 go_ret
 exact ⟨rfl,hb⟩
theorem mac1_gen (m:ByteArray) (to K:Nat→Int) (w:World) (hE:Env w) (hto:Byts 32 to) (hm:m.size≤562949953421312) (hK:Byts 32 K)
  (hS:∀ u v,Tabs u→Strs u v 2 (two2 ⟨#[109,97,99,49,45,45,45,45]⟩ (mkS 32 to))→Calls Tryz.prog 107 #[v] u fun e w'=>e=.returned (.agg (WA .u8 32 K))∧Below u.heap.size u w') :
  Calls Tryz.prog 64 #[.string m,.agg (WA .u8 32 to)] w fun e w'=>e=.returned (.string (keyedT 16 (mkS 32 K) m).1)∧Below w.heap.size w w':=by
 have hB:Below w.heap.size w (w.alloc (.cells (WA .u8 32 to) 22)):=(Below.refl _ w).alloc (Nat.le_refl _) _
 have g0:ArrAt (w.alloc (.cells (WA .u8 32 to) 22)) w.heap.size .u8 22 32 to:=heap_alloc_new w _
 have hcv:=str_back 32 w.heap.size 32 _ 32 to g0.row hto rfl
 replace hE:=hE.kept hB
 go_enter Tryz.func64,Tryz.ntmps64
 go_wp2_with (refine wl_bs2 (s:=⟨#[109,97,99,49,45,45,45,45]⟩) (t:=mkS 32 to) (by rfl) (by rfl) ?_;intro v1 hS1 hb1 hz1;refine Hid.out ?_)
 have e1:∀ o,(w.alloc o).heap.size=w.heap.size+1:=fun o=>by simp
 rw[e1] at hS1
 replace hE:=hE.kept hb1
 replace hB:=hB.trans (hb1.mono hB.size)
 clear hb1 hz1 e1 hcv g0
 refine Hid.mk ?_
 go_wp2_with fail
 refine (hS _ _ hE.1 hS1).mono ?_
 rintro x v2 ⟨rfl,hb2⟩
 replace hE:=hE.kept hb2
 replace hB:=hB.trans (hb2.mono hB.size)
 clear hb2 hS1 hS
 have hB2:=hB.size
 have hE2:=hE.two
 go_wp2_with (refine wl_alloc32 ?_;intro v3 gn hb3;refine Hid.out ?_)
 replace hE:=hE.kept hb3
 replace hB:=hB.trans (hb3.mono hB.size)
 clear hb3
 refine Hid.mk ?_
 go_wp2_with (refine st_arr isArr32 gn (by rfl) (by rfl) ?_;intro v4 gn4 o4;refine Hid.out ?_)
 replace hE:=hE.only o4 (by omega)
 replace hB:=hB.trans (o4.below hB2)
 clear o4 gn
 refine Hid.mk ?_
 have hcv:=str_back 32 v2.heap.size 32 v4 32 K gn4.row hK rfl
 go_wp2_with (refine wl_bs1 (s:=m) (by rfl) ?_;intro v5 hS5 hb5 hz5;refine Hid.out ?_)
 replace hE:=hE.kept hb5
 replace hB:=hB.trans (hb5.mono hB.size)
 clear hb5 hz5 hcv gn4
 refine Hid.mk ?_
 go_wp2_with fail
 refine (markBy_run (mkS 32 K) _ 1 (one1 m) _ hE hS5 (by omega) (by rw[join1];exact hm)).mono ?_
 rintro x v6 ⟨rfl,hb6⟩
 rw[join1]
 go_wp2_with fail
 go_ret
 exact ⟨rfl,hB.trans (hb6.mono hB.size)⟩
theorem firstMark_run (m:ByteArray) (to:Nat→Int) (w:World) (hE:Env w) (hto:Byts 32 to) (hm:m.size≤562949953421312) :
  Calls Tryz.prog 64 #[.string m,.agg (WA .u8 32 to)] w fun e w'=>e=.returned (.string (mrkT m to))∧Below w.heap.size w w':=by
 have hS:∀ u v,Tabs u→Strs u v 2 (two2 ⟨#[109,97,99,49,45,45,45,45]⟩ (mkS 32 to))→Calls Tryz.prog 107 #[v] u fun e w'=>e=.returned (.agg (WA .u8 32 (sumF (⟨#[109,97,99,49,45,45,45,45]⟩++mkS 32 to))))∧Below u.heap.size u w':=fun u v hT hS=>by
  have h:=hSum_run v 2 (two2 ⟨#[109,97,99,49,45,45,45,45]⟩ (mkS 32 to)) u hT hS (by omega) (by rw[join2,ByteArray.size_append,mkS_size];exact (show (8:Nat)+32≤1152921504606846976 by omega))
  rw[join2] at h
  exact h
 have hb:Byts 32 (sumF (⟨#[109,97,99,49,45,45,45,45]⟩++mkS 32 to)):=fun i _=>outF_b _ i
 unfold mrkT mrkK
 generalize sumF (⟨#[109,97,99,49,45,45,45,45]⟩++mkS 32 to)=K at *
 exact mac1_gen m to K w hE hto hm hb hS
theorem secondMark_run (m f c:ByteArray) (w:World) (hE:Env w) (hm:m.size+f.size≤562949953421312) :
  Calls Tryz.prog 76 #[.string m,.string f,.string c] w fun e w'=>e=.returned (.string (keyedT 16 c (m++f)).1)∧Below w.heap.size w w':=by
 go_enter Tryz.func76,Tryz.ntmps76
 go_wp2_with (refine wl_bs2 (s:=m) (t:=f) (by rfl) (by rfl) ?_;intro v5 hS5 hb5 hz5;refine Hid.out ?_)
 replace hE:=hE.kept hb5
 clear hz5
 refine Hid.mk ?_
 go_wp2_with fail
 refine (markBy_run c _ 2 (two2 m f) _ hE hS5 (by omega) (by rw[join2,ByteArray.size_append];exact hm)).mono ?_
 rintro x v6 ⟨rfl,hb6⟩
 rw[join2]
 go_wp2_with fail
 go_ret
 exact ⟨rfl,hb5.trans (hb6.mono hb5.size)⟩
theorem zeros16:(⟨#[0,0,0,0,0,0,0,0,0,0,0,0,0,0,0,0]⟩:ByteArray)=mkS 16 (fun _=>0):=by decide +kernel
theorem size_nil {c:ByteArray}:c.size=0↔c=⟨#[]⟩:=by
 constructor
 ·intro h
  have:c=ByteArray.empty:=by simpa using h
  exact this
 ·rintro rfl
  rfl
def markE (m:ByteArray) (to:Nat→Int) (c:ByteArray):Ending:=if ¬ (m.size=116∨m.size=60) then gup 10 else if ¬ (c.size=0∨c.size=16) then gup 1 else .returned (.string (marksT m to c))
theorem withMarks_run (m:ByteArray) (to:Nat→Int) (c:ByteArray) (w:World) (hE:Env w) (hto:Byts 32 to) :
  Calls Tryz.prog 60 #[.string m,.agg (WA .u8 32 to),.string c] w fun e w'=>e=markE m to c∧Below w.heap.size w w':=by
 have hB:Below w.heap.size w (w.alloc (.cells (WA .u8 32 to) 22)):=(Below.refl _ w).alloc (Nat.le_refl _) _
 have g0:ArrAt (w.alloc (.cells (WA .u8 32 to) 22)) w.heap.size .u8 22 32 to:=heap_alloc_new w _
 replace hE:=hE.kept hB
 by_cases h1:m.size=116∨m.size=60
 case neg =>
  have e1:((m.size:Int)==116)=false:=beq_false_of_ne (by omega)
  have e2:((m.size:Int)==60)=false:=beq_false_of_ne (by omega)
  have hR:markE m to c=gup 10:=by unfold markE;rw[if_pos h1]
  rw[hR]
  clear h1
  go_enter Tryz.func60,Tryz.ntmps60
  go_wp2_with fail
  refine (need_no 10 _).mono ?_
  rintro x v9 ⟨rfl,rfl⟩
  exact ⟨rfl,rfl,hB⟩
 have hms:m.size≤1000:=by omega
 have hL1:m.size+(mrkT m to).size≤9223372036854775807:=by rw[mrkT_size];omega
 have hL2:(m++mrkT m to).size≤2000:=by rw[ByteArray.size_append,mrkT_size];omega
 have hFM:=fun u hu=>firstMark_run m to u hu hto (by omega)
 obtain ⟨F,hF⟩:∃ X,mrkT m to=X:=⟨_,rfl⟩
 rw[hF] at hFM hL1 hL2
 have HA:Hid (∀ (Pc:Prop),((m.size:Int)==116)=true∨(((m.size:Int)==116)=false∧((m.size:Int)==60)=true)):=Hid.mk (fun _=>by
  rcases h1 with h | h
  ·left;rw[h];rfl
  ·right;rw[h];exact ⟨rfl,rfl⟩)
 by_cases h2:c.size=0
 ·have hc:=size_nil.1 h2
  subst hc
  have hR:markE m to ⟨#[]⟩=.returned (.string (m++F++mkS 16 (fun _=>0))):=by unfold markE;rw[if_neg (not_not_intro h1),if_neg (not_not_intro (.inl h2)),marksT_eq,hF];unfold sndT;rw[if_pos h2]
  rw[hR]
  have HL1:=Hid.mk hL1
  have HL2:Hid ((m++F).size+(⟨#[0,0,0,0,0,0,0,0,0,0,0,0,0,0,0,0]⟩:ByteArray).size≤9223372036854775807):=Hid.mk (by have:(⟨#[0,0,0,0,0,0,0,0,0,0,0,0,0,0,0,0]⟩:ByteArray).size=16:=rfl;omega)
  have hee:((⟨#[]⟩:ByteArray)==⟨#[]⟩)=true:=rfl
  clear h1 h2
  rcases HA.out True with h | h
  all_goals
   go_enter Tryz.func60,Tryz.ntmps60
   go_wp2_with fail
   refine (need_ok 10 _).mono ?_
   rintro x v1 ⟨rfl,rfl⟩
   go_wp2_with fail
   refine (need_ok 1 _).mono ?_
   rintro x v2 ⟨rfl,rfl⟩
   go_wp2_with (refine ld_arr isArr32 g0 (by rfl) ?_)
   refine (hFM _ hE).mono ?_
   rintro x v3 ⟨rfl,hb⟩
   go_wp2_with (refine wl_value rfl (exec_catS rfl (by rfl) (by rfl) (by first | exact HL1.out | exact HL2.out)) ?_)
   rw[zeros16]
   go_ret
   exact ⟨rfl,hB.trans (hb.mono hB.size)⟩
 ·have hne:¬ c=⟨#[]⟩:=fun h=>h2 (size_nil.2 h)
  have HNE:=Hid.mk hne
  by_cases h3:c.size=16
  case neg =>
   have e1:((c.size:Int)==16)=false:=beq_false_of_ne (by omega)
   have hR:markE m to c=gup 1:=by unfold markE;rw[if_neg (not_not_intro h1),if_pos (by omega)]
   rw[hR]
   clear h1 h2 h3 hne
   rcases HA.out True with h | h
   all_goals
    go_enter Tryz.func60,Tryz.ntmps60
    go_wp2_with fail
    refine (need_ok 10 _).mono ?_
    rintro x v1 ⟨rfl,rfl⟩
    go_wp2_with (refine wl_value rfl (exec_eqSF rfl (by rfl) (by rfl) HNE.out) ?_)
    refine (need_no 1 _).mono ?_
    rintro x v2 ⟨rfl,rfl⟩
    exact ⟨rfl,rfl,hB⟩
  have e1:((c.size:Int)==16)=true:=by rw[h3];rfl
  have hR:markE m to c=.returned (.string (m++F++(keyedT 16 c (m++F)).1)):=by unfold markE;rw[if_neg (not_not_intro h1),if_neg (not_not_intro (.inr h3)),marksT_eq,hF];unfold sndT;rw[if_neg h2,hF]
  rw[hR]
  have hks:((keyedT 16 c (m++F)).1).size=16:=keyed_size _ _ (by omega)
  have hFs:F.size=16:=by rw[← hF];exact mrkT_size _ _
  have hSM:=fun u hu=>secondMark_run m F c u hu (by omega)
  obtain ⟨G,hG⟩:∃ X,(keyedT 16 c (m++F)).1=X:=⟨_,rfl⟩
  rw[hG] at hks hSM ⊢
  have HL1:=Hid.mk hL1
  have HL2:Hid ((m++F).size+G.size≤9223372036854775807):=Hid.mk (by omega)
  clear h1 h2 h3 hne hL1 hL2
  rcases HA.out True with h | h
  all_goals
   go_enter Tryz.func60,Tryz.ntmps60
   go_wp2_with fail
   refine (need_ok 10 _).mono ?_
   rintro x v1 ⟨rfl,rfl⟩
   go_wp2_with (refine wl_value rfl (exec_eqSF rfl (by rfl) (by rfl) HNE.out) ?_)
   refine (need_ok 1 _).mono ?_
   rintro x v2 ⟨rfl,rfl⟩
   go_wp2_with (refine ld_arr isArr32 g0 (by rfl) ?_)
   refine (hFM _ hE).mono ?_
   rintro x v3 ⟨rfl,hb⟩
   replace hE:=hE.kept hb
   replace hB:=hB.trans (hb.mono hB.size)
   go_wp2_with (first|(refine wl_value rfl (exec_eqSF rfl (by rfl) (by rfl) HNE.out) ?_)|(refine wl_value rfl (exec_catS rfl (by rfl) (by rfl) HL1.out) ?_))
   refine (hSM _ hE).mono ?_
   rintro x v4 ⟨rfl,hb4⟩
   go_wp2_with (refine wl_value rfl (exec_catS rfl (by rfl) (by rfl) HL2.out) ?_)
   go_ret
   exact ⟨rfl,hB.trans (hb4.mono hB.size)⟩
theorem Marked_run (m:ByteArray) (k:Nat→Int) (w:World) (hE:Env w) (hk:Byts 32 k) :
  Calls Tryz.prog 20 #[.string m,.agg (WA .u8 32 k)] w fun e w'=>e=.returned (.bool (MarkedR m k))∧Below w.heap.size w w':=by
 have hB:Below w.heap.size w (w.alloc (.cells (WA .u8 32 k) 22)):=(Below.refl _ w).alloc (Nat.le_refl _) _
 have g0:ArrAt (w.alloc (.cells (WA .u8 32 k) 22)) w.heap.size .u8 22 32 k:=heap_alloc_new w _
 replace hE:=hE.kept hB
 cases hw:isWhole m
 ·have hR:MarkedR m k=false:=by unfold MarkedR;rw[hw];rfl
  rw[hR]
  go_enter Tryz.func20,Tryz.ntmps20
  go_wp2_with fail
  refine (hasMarks_run m _).mono ?_
  rintro x v1 ⟨rfl,hb⟩
  rw[hw]
  go_wp2_with fail
  go_ret
  exact ⟨rfl,hB.trans (hb.mono hB.size)⟩
 ·have hms:m.size=148∨m.size=92:=by unfold isWhole at hw;exact of_decide_eq_true hw
  obtain ⟨n,hn⟩:∃ n,m.size=n+32:=⟨m.size-32,by omega⟩
  have hn2:m.size-32=n:=by omega
  have hR:MarkedR m k=decide (m.extract n (n+16)=mrkT (m.extract 0 n) k):=by
   unfold MarkedR
   rw[hw,hn2,Bool.true_and]
   exact decide_eq_decide.2 eq_comm
  rw[hR]
  have hxs:(m.extract n (n+16)).size≤1000:=by rw[ByteArray.size_extract];omega
  have hys:(m.extract 0 n).size≤1000:=by rw[ByteArray.size_extract];omega
  have hAP:=fun u=>apart_run m n u hn (by omega)
  obtain ⟨X,hX⟩:∃ X,m.extract n (n+16)=X:=⟨_,rfl⟩
  obtain ⟨Y,hY⟩:∃ X,m.extract 0 n=X:=⟨_,rfl⟩
  obtain ⟨V,hV⟩:∃ X,m.extract (n+16) m.size=X:=⟨_,rfl⟩
  rw[hX] at hxs hAP ⊢
  rw[hY] at hys hAP ⊢
  rw[hV] at hAP
  go_enter Tryz.func20,Tryz.ntmps20
  go_wp2_with fail
  refine (hasMarks_run m _).mono ?_
  rintro x v1 ⟨rfl,hb⟩
  rw[hw]
  replace hE:=hE.kept hb
  replace g0:=g0.kept hb
  replace hB:=hB.trans (hb.mono hB.size)
  clear hb
  go_wp2_with fail
  refine (hAP _).mono ?_
  rintro x v2 ⟨rfl,hb⟩
  replace hE:=hE.kept hb
  replace g0:=g0.kept hb
  replace hB:=hB.trans (hb.mono hB.size)
  clear hb
  go_wp2_with (refine ld_arr isArr32 g0 (by rfl) ?_)
  refine (firstMark_run Y k _ hE hk (by omega)).mono ?_
  rintro x v3 ⟨rfl,hb⟩
  replace hB:=hB.trans (hb.mono hB.size)
  clear hb
  go_wp2_with fail
  refine (Same_run X (mrkT Y k) _ (by omega)).mono ?_
  rintro x v4 ⟨rfl,hb⟩
  go_wp2_with fail
  go_ret
  exact ⟨rfl,hB.trans (hb.mono hB.size)⟩
theorem enterMarkCl (args:Array Value) (w:World):(callFunc 59 args).run Tryz.prog w=.ok (.enter 59 args) w:=by kernel_rfl
theorem Mark_cl (b0 b1 b2 b3:Nat) (m:ByteArray) (to:Nat→Int) (c:ByteArray) (MS:ByteArray) (u:World) (hE:Env u) (c0:CAt u b0 9 (.string m)) (c1:ArrAt u b1 .u8 22 32 to) (c2:CAt u b2 9 (.string c)) (c3:CAt u b3 9 (.string ⟨#[]⟩))
  (hst:∀ u,Env u→Calls Tryz.prog 60 #[.string m,.agg (WA .u8 32 to),.string c] u fun e w'=>e=.returned (.string MS)∧Below u.heap.size u w') :
  Calls Tryz.prog 59 #[.pointer (some ⟨b0,0,none⟩),.pointer (some ⟨b1,0,none⟩),.pointer (some ⟨b2,0,none⟩),.pointer (some ⟨b3,0,none⟩)] u fun e w'=>e=.returned (.tuple #[])∧CAt w' b3 9 (.string MS)∧Touch (fun x=>x=b3) u w':=by
 have touch_or0:∀ {p q:World},Only b3 p q→Touch (fun x=>x=b3) p q:=fun o=>⟨o.os,o.tape,o.output,by rw[o.size];exact Nat.le_refl _,fun k _ hn=>o.block k (fun h=>hn (by simp[h]))⟩
 have e0:=c0.at
 have e2:=c2.at
 go_enter Tryz.func59,Tryz.ntmps59
 go_wp2_with (first|(refine ld_arr isArr32 c1 (by rfl) ?_))
 refine (hst _ hE).mono ?_
 rintro x v1 ⟨rfl,hb⟩
 replace c3:=c3.kept hb
 have ht:Touch (fun x=>x=b3) u v1:=touch_le hb
 clear hb
 have s0:=c3.at
 have z0:=c3.free
 have d0:=Hid.mk (c3.set (.string MS))
 have ht0:Touch (fun x=>x=b3) u (v1.setCell ⟨b3,0,none⟩ (.string MS)):=touch_tr ht (touch_or0 only_set)
 replace ht:=ht0
 clear ht0 c3
 go_wp2_with fail
 exact bodyPost_end (results_none rfl _ _ _) rfl ⟨rfl,d0.out,ht⟩
theorem Mark_cn (b0 b1 b2 b3:Nat) (m:ByteArray) (to:Nat→Int) (c:ByteArray) (X:Int) (u:World) (hE:Env u) (c0:CAt u b0 9 (.string m)) (c1:ArrAt u b1 .u8 22 32 to) (c2:CAt u b2 9 (.string c))
  (hst:∀ u,Env u→Calls Tryz.prog 60 #[.string m,.agg (WA .u8 32 to),.string c] u fun e w'=>e=gup X∧Below u.heap.size u w') :
  Calls Tryz.prog 59 #[.pointer (some ⟨b0,0,none⟩),.pointer (some ⟨b1,0,none⟩),.pointer (some ⟨b2,0,none⟩),.pointer (some ⟨b3,0,none⟩)] u fun e w'=>e=gup X∧Below u.heap.size u w':=by
 have e0:=c0.at
 have e2:=c2.at
 go_enter Tryz.func59,Tryz.ntmps59
 go_wp2_with (first|(refine ld_arr isArr32 c1 (by rfl) ?_))
 refine (hst _ hE).mono ?_
 rintro x v1 ⟨rfl,hb⟩
 exact ⟨rfl,rfl,hb⟩
set_option linter.unusedVariables false in
theorem Mark_ok (m:ByteArray) (to:Nat→Int) (c:ByteArray) (MS:ByteArray) (w:World) (hE:Env w)
  (hst:∀ u,Env u→Calls Tryz.prog 60 #[.string m,.agg (WA .u8 32 to),.string c] u fun e w'=>e=.returned (.string MS)∧Below u.heap.size u w') :
  Calls Tryz.prog 19 #[.string m,.agg (WA .u8 32 to),.string c] w fun e w'=>e=.returned (.tuple #[.string MS,.int .i64 0])∧Below w.heap.size w w':=by
 have hB:Below w.heap.size w ((((w.alloc (.cells #[.string m] 9)).alloc (.cells (WA .u8 32 to) 22)).alloc (.cells #[.string c] 9)).alloc (.cells #[.string ⟨#[]⟩] 9)):=((((Below.refl _ w).alloc (by simp) _).alloc (by simp) _).alloc (by simp;omega) _).alloc (by simp;omega) _
 have g0:CAt ((((w.alloc (.cells #[.string m] 9)).alloc (.cells (WA .u8 32 to) 22)).alloc (.cells #[.string c] 9)).alloc (.cells #[.string ⟨#[]⟩] 9)) w.heap.size 9 (.string m):=heap_keep_alloc _ (heap_keep_alloc _ (heap_keep_alloc _ (heap_at_alloc w _ w.heap.size (by simp))))
 have g1:ArrAt ((((w.alloc (.cells #[.string m] 9)).alloc (.cells (WA .u8 32 to) 22)).alloc (.cells #[.string c] 9)).alloc (.cells #[.string ⟨#[]⟩] 9)) (w.heap.size+1) .u8 22 32 to:=heap_keep_alloc _ (heap_keep_alloc _ (heap_at_alloc (w.alloc (.cells #[.string m] 9)) _ (w.heap.size+1) (by simp)))
 have g2:CAt ((((w.alloc (.cells #[.string m] 9)).alloc (.cells (WA .u8 32 to) 22)).alloc (.cells #[.string c] 9)).alloc (.cells #[.string ⟨#[]⟩] 9)) (w.heap.size+1+1) 9 (.string c):=heap_keep_alloc _ (heap_at_alloc ((w.alloc (.cells #[.string m] 9)).alloc (.cells (WA .u8 32 to) 22)) _ (w.heap.size+1+1) (by simp))
 have g3:CAt ((((w.alloc (.cells #[.string m] 9)).alloc (.cells (WA .u8 32 to) 22)).alloc (.cells #[.string c] 9)).alloc (.cells #[.string ⟨#[]⟩] 9)) (w.heap.size+1+1+1) 9 (.string ⟨#[]⟩):=heap_at_alloc (((w.alloc (.cells #[.string m] 9)).alloc (.cells (WA .u8 32 to) 22)).alloc (.cells #[.string c] 9)) _ (w.heap.size+1+1+1) (by simp)
 replace hE:=hE.kept hB
 have hss:(((((w.alloc (.cells #[.string m] 9)).alloc (.cells (WA .u8 32 to) 22)).alloc (.cells #[.string c] 9)).alloc (.cells #[.string ⟨#[]⟩] 9))).heap.size=w.heap.size+1+1+1+1:=by simp
 have hAt:=attempt_run 59 #[.pointer (some ⟨w.heap.size,0,none⟩),.pointer (some ⟨(w.heap.size+1),0,none⟩),.pointer (some ⟨(w.heap.size+1+1),0,none⟩),.pointer (some ⟨(w.heap.size+1+1+1),0,none⟩)] (fun x=>x=(w.heap.size+1+1+1)) (fun x v=>x=0∧CAt v (w.heap.size+1+1+1) 9 (.string MS)) ((((w.alloc (.cells #[.string m] 9)).alloc (.cells (WA .u8 32 to) 22)).alloc (.cells #[.string c] 9)).alloc (.cells #[.string ⟨#[]⟩] 9)) enterMarkCl (fun x hx=>by simp at hx ⊢;omega) (fun u hu=>by
  refine ((Mark_cl w.heap.size (w.heap.size+1) (w.heap.size+1+1) (w.heap.size+1+1+1) m to c MS u (hE.kept hu) (g0.kept hu) (g1.kept hu) (g2.kept hu) (g3.kept hu)   hst).mono ?_)
  rintro e v ⟨rfl,p0,ht⟩
  exact ⟨ht,0,.inl ⟨rfl,rfl⟩,rfl,p0⟩)
 have hmf:∀ (fn:Fn) (first cap:Array Value) (w:World),(Instr.makeFunc fn first cap).run Tryz.prog w=.ok (.func fn first cap) w:=fun _ _ _ _=>rfl
 go_enter Tryz.func19,Tryz.ntmps19
 go_wp2_with fail
 refine hAt.mono ?_
 rintro e v0 ⟨x,vc,rfl,⟨hx,p0⟩,tT,hb⟩
 have hx':=hx.symm
 clear hx
 subst hx'
 clear hAt hmf
 replace p0:=p0.block (hb.block (w.heap.size+1+1+1) (by omega))
 replace hB:Below w.heap.size w v0:=⟨tT.os.trans hB.os,tT.tape.trans hB.tape,tT.output.trans hB.output,Nat.le_trans hB.size tT.size,fun k hk=>(tT.block k (by have:=hB.size;omega) (by omega)).trans (hB.block k hk)⟩
 clear tT hb hss g0 g1 g2 g3 hE
 have e0:=p0.at
 go_wp2_with fail
 exact bodyPost_ret (v:=.tuple #[.string MS,.int .i64 0]) (results_two Tryz.results19 (by rfl) (by rfl)) rfl ⟨rfl,hB⟩
set_option linter.unusedVariables false in
theorem Mark_no (m:ByteArray) (to:Nat→Int) (c:ByteArray) (X:Int) (w:World) (hE:Env w)
  (hst:∀ u,Env u→Calls Tryz.prog 60 #[.string m,.agg (WA .u8 32 to),.string c] u fun e w'=>e=gup X∧Below u.heap.size u w') :
  Calls Tryz.prog 19 #[.string m,.agg (WA .u8 32 to),.string c] w fun e w'=>e=.returned (.tuple #[.string ⟨#[]⟩,.int .i64 X])∧Below w.heap.size w w':=by
 have hB:Below w.heap.size w ((((w.alloc (.cells #[.string m] 9)).alloc (.cells (WA .u8 32 to) 22)).alloc (.cells #[.string c] 9)).alloc (.cells #[.string ⟨#[]⟩] 9)):=((((Below.refl _ w).alloc (by simp) _).alloc (by simp) _).alloc (by simp;omega) _).alloc (by simp;omega) _
 have g0:CAt ((((w.alloc (.cells #[.string m] 9)).alloc (.cells (WA .u8 32 to) 22)).alloc (.cells #[.string c] 9)).alloc (.cells #[.string ⟨#[]⟩] 9)) w.heap.size 9 (.string m):=heap_keep_alloc _ (heap_keep_alloc _ (heap_keep_alloc _ (heap_at_alloc w _ w.heap.size (by simp))))
 have g1:ArrAt ((((w.alloc (.cells #[.string m] 9)).alloc (.cells (WA .u8 32 to) 22)).alloc (.cells #[.string c] 9)).alloc (.cells #[.string ⟨#[]⟩] 9)) (w.heap.size+1) .u8 22 32 to:=heap_keep_alloc _ (heap_keep_alloc _ (heap_at_alloc (w.alloc (.cells #[.string m] 9)) _ (w.heap.size+1) (by simp)))
 have g2:CAt ((((w.alloc (.cells #[.string m] 9)).alloc (.cells (WA .u8 32 to) 22)).alloc (.cells #[.string c] 9)).alloc (.cells #[.string ⟨#[]⟩] 9)) (w.heap.size+1+1) 9 (.string c):=heap_keep_alloc _ (heap_at_alloc ((w.alloc (.cells #[.string m] 9)).alloc (.cells (WA .u8 32 to) 22)) _ (w.heap.size+1+1) (by simp))
 have g3:CAt ((((w.alloc (.cells #[.string m] 9)).alloc (.cells (WA .u8 32 to) 22)).alloc (.cells #[.string c] 9)).alloc (.cells #[.string ⟨#[]⟩] 9)) (w.heap.size+1+1+1) 9 (.string ⟨#[]⟩):=heap_at_alloc (((w.alloc (.cells #[.string m] 9)).alloc (.cells (WA .u8 32 to) 22)).alloc (.cells #[.string c] 9)) _ (w.heap.size+1+1+1) (by simp)
 replace hE:=hE.kept hB
 have hss:(((((w.alloc (.cells #[.string m] 9)).alloc (.cells (WA .u8 32 to) 22)).alloc (.cells #[.string c] 9)).alloc (.cells #[.string ⟨#[]⟩] 9))).heap.size=w.heap.size+1+1+1+1:=by simp
 have hAt:=attempt_run 59 #[.pointer (some ⟨w.heap.size,0,none⟩),.pointer (some ⟨(w.heap.size+1),0,none⟩),.pointer (some ⟨(w.heap.size+1+1),0,none⟩),.pointer (some ⟨(w.heap.size+1+1+1),0,none⟩)] (fun x=>x=(w.heap.size+1+1+1)) (fun x v=>x=X∧CAt v (w.heap.size+1+1+1) 9 (.string ⟨#[]⟩)) ((((w.alloc (.cells #[.string m] 9)).alloc (.cells (WA .u8 32 to) 22)).alloc (.cells #[.string c] 9)).alloc (.cells #[.string ⟨#[]⟩] 9)) enterMarkCl (fun x hx=>by simp at hx ⊢;omega) (fun u hu=>by
  refine ((Mark_cn w.heap.size (w.heap.size+1) (w.heap.size+1+1) (w.heap.size+1+1+1) m to c X u (hE.kept hu) (g0.kept hu) (g1.kept hu) (g2.kept hu) hst).mono ?_)
  rintro e v ⟨rfl,hb⟩
  exact ⟨touch_le hb,X,.inr rfl,rfl,(g3.kept hu).kept hb⟩)
 have hmf:∀ (fn:Fn) (first cap:Array Value) (w:World),(Instr.makeFunc fn first cap).run Tryz.prog w=.ok (.func fn first cap) w:=fun _ _ _ _=>rfl
 go_enter Tryz.func19,Tryz.ntmps19
 go_wp2_with fail
 refine hAt.mono ?_
 rintro e v0 ⟨x,vc,rfl,⟨hx,p0⟩,tT,hb⟩
 have hx':=hx.symm
 clear hx
 subst hx'
 clear hAt hmf
 replace p0:=p0.block (hb.block (w.heap.size+1+1+1) (by omega))
 replace hB:Below w.heap.size w v0:=⟨tT.os.trans hB.os,tT.tape.trans hB.tape,tT.output.trans hB.output,Nat.le_trans hB.size tT.size,fun k hk=>(tT.block k (by have:=hB.size;omega) (by omega)).trans (hB.block k hk)⟩
 clear tT hb hss g0 g1 g2 g3 hE
 have e0:=p0.at
 go_wp2_with fail
 exact bodyPost_ret (v:=.tuple #[.string ⟨#[]⟩,.int .i64 X]) (results_two Tryz.results19 (by rfl) (by rfl)) rfl ⟨rfl,hB⟩
theorem enterBoxCl (args:Array Value) (w:World):(callFunc 68 args).run Tryz.prog w=.ok (.enter 68 args) w:=by kernel_rfl
theorem Box_cl (b0 b1 b2 b3 b4:Nat) (k:Nat→Int) (nn:Nat→Int) (m:ByteArray) (c:ByteArray) (MS:ByteArray) (u:World) (hE:Env u) (c0:ArrAt u b0 .u8 22 32 k) (c1:ArrAt u b1 .u8 53 24 nn) (c2:CAt u b2 9 (.string m)) (c3:CAt u b3 9 (.string c)) (c4:CAt u b4 9 (.string ⟨#[]⟩))
  (hst:∀ u,Env u→Calls Tryz.prog 69 #[.agg (WA .u8 32 k),.agg (WA .u8 24 nn),.string m,.string c] u fun e w'=>e=.returned (.string MS)∧Below u.heap.size u w') :
  Calls Tryz.prog 68 #[.pointer (some ⟨b0,0,none⟩),.pointer (some ⟨b1,0,none⟩),.pointer (some ⟨b2,0,none⟩),.pointer (some ⟨b3,0,none⟩),.pointer (some ⟨b4,0,none⟩)] u fun e w'=>e=.returned (.tuple #[])∧CAt w' b4 9 (.string MS)∧Touch (fun x=>x=b4) u w':=by
 have touch_or0:∀ {p q:World},Only b4 p q→Touch (fun x=>x=b4) p q:=fun o=>⟨o.os,o.tape,o.output,by rw[o.size];exact Nat.le_refl _,fun k _ hn=>o.block k (fun h=>hn (by simp[h]))⟩
 have e2:=c2.at
 have e3:=c3.at
 go_enter Tryz.func68,Tryz.ntmps68
 go_wp2_with (first|(refine ld_arr isArr32 c0 (by rfl) ?_)|(refine ld_arr isArr24 c1 (by rfl) ?_))
 refine (hst _ hE).mono ?_
 rintro x v1 ⟨rfl,hb⟩
 replace c4:=c4.kept hb
 have ht:Touch (fun x=>x=b4) u v1:=touch_le hb
 clear hb
 have s0:=c4.at
 have z0:=c4.free
 have d0:=Hid.mk (c4.set (.string MS))
 have ht0:Touch (fun x=>x=b4) u (v1.setCell ⟨b4,0,none⟩ (.string MS)):=touch_tr ht (touch_or0 only_set)
 replace ht:=ht0
 clear ht0 c4
 go_wp2_with fail
 exact bodyPost_end (results_none rfl _ _ _) rfl ⟨rfl,d0.out,ht⟩
theorem Box_cn (b0 b1 b2 b3 b4:Nat) (k:Nat→Int) (nn:Nat→Int) (m:ByteArray) (c:ByteArray) (X:Int) (u:World) (hE:Env u) (c0:ArrAt u b0 .u8 22 32 k) (c1:ArrAt u b1 .u8 53 24 nn) (c2:CAt u b2 9 (.string m)) (c3:CAt u b3 9 (.string c))
  (hst:∀ u,Env u→Calls Tryz.prog 69 #[.agg (WA .u8 32 k),.agg (WA .u8 24 nn),.string m,.string c] u fun e w'=>e=gup X∧Below u.heap.size u w') :
  Calls Tryz.prog 68 #[.pointer (some ⟨b0,0,none⟩),.pointer (some ⟨b1,0,none⟩),.pointer (some ⟨b2,0,none⟩),.pointer (some ⟨b3,0,none⟩),.pointer (some ⟨b4,0,none⟩)] u fun e w'=>e=gup X∧Below u.heap.size u w':=by
 have e2:=c2.at
 have e3:=c3.at
 go_enter Tryz.func68,Tryz.ntmps68
 go_wp2_with (first|(refine ld_arr isArr32 c0 (by rfl) ?_)|(refine ld_arr isArr24 c1 (by rfl) ?_))
 refine (hst _ hE).mono ?_
 rintro x v1 ⟨rfl,hb⟩
 exact ⟨rfl,rfl,hb⟩
set_option linter.unusedVariables false in
theorem Box_ok (k:Nat→Int) (nn:Nat→Int) (m:ByteArray) (c:ByteArray) (MS:ByteArray) (w:World) (hE:Env w)
  (hst:∀ u,Env u→Calls Tryz.prog 69 #[.agg (WA .u8 32 k),.agg (WA .u8 24 nn),.string m,.string c] u fun e w'=>e=.returned (.string MS)∧Below u.heap.size u w') :
  Calls Tryz.prog 24 #[.agg (WA .u8 32 k),.agg (WA .u8 24 nn),.string m,.string c] w fun e w'=>e=.returned (.tuple #[.string MS,.int .i64 0])∧Below w.heap.size w w':=by
 have hB:Below w.heap.size w (((((w.alloc (.cells (WA .u8 32 k) 22)).alloc (.cells (WA .u8 24 nn) 53)).alloc (.cells #[.string m] 9)).alloc (.cells #[.string c] 9)).alloc (.cells #[.string ⟨#[]⟩] 9)):=(((((Below.refl _ w).alloc (by simp) _).alloc (by simp) _).alloc (by simp;omega) _).alloc (by simp;omega) _).alloc (by simp;omega) _
 have g0:ArrAt (((((w.alloc (.cells (WA .u8 32 k) 22)).alloc (.cells (WA .u8 24 nn) 53)).alloc (.cells #[.string m] 9)).alloc (.cells #[.string c] 9)).alloc (.cells #[.string ⟨#[]⟩] 9)) w.heap.size .u8 22 32 k:=heap_keep_alloc _ (heap_keep_alloc _ (heap_keep_alloc _ (heap_keep_alloc _ (heap_at_alloc w _ w.heap.size (by simp)))))
 have g1:ArrAt (((((w.alloc (.cells (WA .u8 32 k) 22)).alloc (.cells (WA .u8 24 nn) 53)).alloc (.cells #[.string m] 9)).alloc (.cells #[.string c] 9)).alloc (.cells #[.string ⟨#[]⟩] 9)) (w.heap.size+1) .u8 53 24 nn:=heap_keep_alloc _ (heap_keep_alloc _ (heap_keep_alloc _ (heap_at_alloc (w.alloc (.cells (WA .u8 32 k) 22)) _ (w.heap.size+1) (by simp))))
 have g2:CAt (((((w.alloc (.cells (WA .u8 32 k) 22)).alloc (.cells (WA .u8 24 nn) 53)).alloc (.cells #[.string m] 9)).alloc (.cells #[.string c] 9)).alloc (.cells #[.string ⟨#[]⟩] 9)) (w.heap.size+1+1) 9 (.string m):=heap_keep_alloc _ (heap_keep_alloc _ (heap_at_alloc ((w.alloc (.cells (WA .u8 32 k) 22)).alloc (.cells (WA .u8 24 nn) 53)) _ (w.heap.size+1+1) (by simp)))
 have g3:CAt (((((w.alloc (.cells (WA .u8 32 k) 22)).alloc (.cells (WA .u8 24 nn) 53)).alloc (.cells #[.string m] 9)).alloc (.cells #[.string c] 9)).alloc (.cells #[.string ⟨#[]⟩] 9)) (w.heap.size+1+1+1) 9 (.string c):=heap_keep_alloc _ (heap_at_alloc (((w.alloc (.cells (WA .u8 32 k) 22)).alloc (.cells (WA .u8 24 nn) 53)).alloc (.cells #[.string m] 9)) _ (w.heap.size+1+1+1) (by simp))
 have g4:CAt (((((w.alloc (.cells (WA .u8 32 k) 22)).alloc (.cells (WA .u8 24 nn) 53)).alloc (.cells #[.string m] 9)).alloc (.cells #[.string c] 9)).alloc (.cells #[.string ⟨#[]⟩] 9)) (w.heap.size+1+1+1+1) 9 (.string ⟨#[]⟩):=heap_at_alloc ((((w.alloc (.cells (WA .u8 32 k) 22)).alloc (.cells (WA .u8 24 nn) 53)).alloc (.cells #[.string m] 9)).alloc (.cells #[.string c] 9)) _ (w.heap.size+1+1+1+1) (by simp)
 replace hE:=hE.kept hB
 have hss:((((((w.alloc (.cells (WA .u8 32 k) 22)).alloc (.cells (WA .u8 24 nn) 53)).alloc (.cells #[.string m] 9)).alloc (.cells #[.string c] 9)).alloc (.cells #[.string ⟨#[]⟩] 9))).heap.size=w.heap.size+1+1+1+1+1:=by simp
 have hAt:=attempt_run 68 #[.pointer (some ⟨w.heap.size,0,none⟩),.pointer (some ⟨(w.heap.size+1),0,none⟩),.pointer (some ⟨(w.heap.size+1+1),0,none⟩),.pointer (some ⟨(w.heap.size+1+1+1),0,none⟩),.pointer (some ⟨(w.heap.size+1+1+1+1),0,none⟩)] (fun x=>x=(w.heap.size+1+1+1+1)) (fun x v=>x=0∧CAt v (w.heap.size+1+1+1+1) 9 (.string MS)) (((((w.alloc (.cells (WA .u8 32 k) 22)).alloc (.cells (WA .u8 24 nn) 53)).alloc (.cells #[.string m] 9)).alloc (.cells #[.string c] 9)).alloc (.cells #[.string ⟨#[]⟩] 9)) enterBoxCl (fun x hx=>by simp at hx ⊢;omega) (fun u hu=>by
  refine ((Box_cl w.heap.size (w.heap.size+1) (w.heap.size+1+1) (w.heap.size+1+1+1) (w.heap.size+1+1+1+1) k nn m c MS u (hE.kept hu) (g0.kept hu) (g1.kept hu) (g2.kept hu) (g3.kept hu) (g4.kept hu)   hst).mono ?_)
  rintro e v ⟨rfl,p0,ht⟩
  exact ⟨ht,0,.inl ⟨rfl,rfl⟩,rfl,p0⟩)
 have hmf:∀ (fn:Fn) (first cap:Array Value) (w:World),(Instr.makeFunc fn first cap).run Tryz.prog w=.ok (.func fn first cap) w:=fun _ _ _ _=>rfl
 go_enter Tryz.func24,Tryz.ntmps24
 go_wp2_with fail
 refine hAt.mono ?_
 rintro e v0 ⟨x,vc,rfl,⟨hx,p0⟩,tT,hb⟩
 have hx':=hx.symm
 clear hx
 subst hx'
 clear hAt hmf
 replace p0:=p0.block (hb.block (w.heap.size+1+1+1+1) (by omega))
 replace hB:Below w.heap.size w v0:=⟨tT.os.trans hB.os,tT.tape.trans hB.tape,tT.output.trans hB.output,Nat.le_trans hB.size tT.size,fun k hk=>(tT.block k (by have:=hB.size;omega) (by omega)).trans (hB.block k hk)⟩
 clear tT hb hss g0 g1 g2 g3 g4 hE
 have e0:=p0.at
 go_wp2_with fail
 exact bodyPost_ret (v:=.tuple #[.string MS,.int .i64 0]) (results_two Tryz.results24 (by rfl) (by rfl)) rfl ⟨rfl,hB⟩
set_option linter.unusedVariables false in
theorem Box_no (k:Nat→Int) (nn:Nat→Int) (m:ByteArray) (c:ByteArray) (X:Int) (w:World) (hE:Env w)
  (hst:∀ u,Env u→Calls Tryz.prog 69 #[.agg (WA .u8 32 k),.agg (WA .u8 24 nn),.string m,.string c] u fun e w'=>e=gup X∧Below u.heap.size u w') :
  Calls Tryz.prog 24 #[.agg (WA .u8 32 k),.agg (WA .u8 24 nn),.string m,.string c] w fun e w'=>e=.returned (.tuple #[.string ⟨#[]⟩,.int .i64 X])∧Below w.heap.size w w':=by
 have hB:Below w.heap.size w (((((w.alloc (.cells (WA .u8 32 k) 22)).alloc (.cells (WA .u8 24 nn) 53)).alloc (.cells #[.string m] 9)).alloc (.cells #[.string c] 9)).alloc (.cells #[.string ⟨#[]⟩] 9)):=(((((Below.refl _ w).alloc (by simp) _).alloc (by simp) _).alloc (by simp;omega) _).alloc (by simp;omega) _).alloc (by simp;omega) _
 have g0:ArrAt (((((w.alloc (.cells (WA .u8 32 k) 22)).alloc (.cells (WA .u8 24 nn) 53)).alloc (.cells #[.string m] 9)).alloc (.cells #[.string c] 9)).alloc (.cells #[.string ⟨#[]⟩] 9)) w.heap.size .u8 22 32 k:=heap_keep_alloc _ (heap_keep_alloc _ (heap_keep_alloc _ (heap_keep_alloc _ (heap_at_alloc w _ w.heap.size (by simp)))))
 have g1:ArrAt (((((w.alloc (.cells (WA .u8 32 k) 22)).alloc (.cells (WA .u8 24 nn) 53)).alloc (.cells #[.string m] 9)).alloc (.cells #[.string c] 9)).alloc (.cells #[.string ⟨#[]⟩] 9)) (w.heap.size+1) .u8 53 24 nn:=heap_keep_alloc _ (heap_keep_alloc _ (heap_keep_alloc _ (heap_at_alloc (w.alloc (.cells (WA .u8 32 k) 22)) _ (w.heap.size+1) (by simp))))
 have g2:CAt (((((w.alloc (.cells (WA .u8 32 k) 22)).alloc (.cells (WA .u8 24 nn) 53)).alloc (.cells #[.string m] 9)).alloc (.cells #[.string c] 9)).alloc (.cells #[.string ⟨#[]⟩] 9)) (w.heap.size+1+1) 9 (.string m):=heap_keep_alloc _ (heap_keep_alloc _ (heap_at_alloc ((w.alloc (.cells (WA .u8 32 k) 22)).alloc (.cells (WA .u8 24 nn) 53)) _ (w.heap.size+1+1) (by simp)))
 have g3:CAt (((((w.alloc (.cells (WA .u8 32 k) 22)).alloc (.cells (WA .u8 24 nn) 53)).alloc (.cells #[.string m] 9)).alloc (.cells #[.string c] 9)).alloc (.cells #[.string ⟨#[]⟩] 9)) (w.heap.size+1+1+1) 9 (.string c):=heap_keep_alloc _ (heap_at_alloc (((w.alloc (.cells (WA .u8 32 k) 22)).alloc (.cells (WA .u8 24 nn) 53)).alloc (.cells #[.string m] 9)) _ (w.heap.size+1+1+1) (by simp))
 have g4:CAt (((((w.alloc (.cells (WA .u8 32 k) 22)).alloc (.cells (WA .u8 24 nn) 53)).alloc (.cells #[.string m] 9)).alloc (.cells #[.string c] 9)).alloc (.cells #[.string ⟨#[]⟩] 9)) (w.heap.size+1+1+1+1) 9 (.string ⟨#[]⟩):=heap_at_alloc ((((w.alloc (.cells (WA .u8 32 k) 22)).alloc (.cells (WA .u8 24 nn) 53)).alloc (.cells #[.string m] 9)).alloc (.cells #[.string c] 9)) _ (w.heap.size+1+1+1+1) (by simp)
 replace hE:=hE.kept hB
 have hss:((((((w.alloc (.cells (WA .u8 32 k) 22)).alloc (.cells (WA .u8 24 nn) 53)).alloc (.cells #[.string m] 9)).alloc (.cells #[.string c] 9)).alloc (.cells #[.string ⟨#[]⟩] 9))).heap.size=w.heap.size+1+1+1+1+1:=by simp
 have hAt:=attempt_run 68 #[.pointer (some ⟨w.heap.size,0,none⟩),.pointer (some ⟨(w.heap.size+1),0,none⟩),.pointer (some ⟨(w.heap.size+1+1),0,none⟩),.pointer (some ⟨(w.heap.size+1+1+1),0,none⟩),.pointer (some ⟨(w.heap.size+1+1+1+1),0,none⟩)] (fun x=>x=(w.heap.size+1+1+1+1)) (fun x v=>x=X∧CAt v (w.heap.size+1+1+1+1) 9 (.string ⟨#[]⟩)) (((((w.alloc (.cells (WA .u8 32 k) 22)).alloc (.cells (WA .u8 24 nn) 53)).alloc (.cells #[.string m] 9)).alloc (.cells #[.string c] 9)).alloc (.cells #[.string ⟨#[]⟩] 9)) enterBoxCl (fun x hx=>by simp at hx ⊢;omega) (fun u hu=>by
  refine ((Box_cn w.heap.size (w.heap.size+1) (w.heap.size+1+1) (w.heap.size+1+1+1) (w.heap.size+1+1+1+1) k nn m c X u (hE.kept hu) (g0.kept hu) (g1.kept hu) (g2.kept hu) (g3.kept hu) hst).mono ?_)
  rintro e v ⟨rfl,hb⟩
  exact ⟨touch_le hb,X,.inr rfl,rfl,(g4.kept hu).kept hb⟩)
 have hmf:∀ (fn:Fn) (first cap:Array Value) (w:World),(Instr.makeFunc fn first cap).run Tryz.prog w=.ok (.func fn first cap) w:=fun _ _ _ _=>rfl
 go_enter Tryz.func24,Tryz.ntmps24
 go_wp2_with fail
 refine hAt.mono ?_
 rintro e v0 ⟨x,vc,rfl,⟨hx,p0⟩,tT,hb⟩
 have hx':=hx.symm
 clear hx
 subst hx'
 clear hAt hmf
 replace p0:=p0.block (hb.block (w.heap.size+1+1+1+1) (by omega))
 replace hB:Below w.heap.size w v0:=⟨tT.os.trans hB.os,tT.tape.trans hB.tape,tT.output.trans hB.output,Nat.le_trans hB.size tT.size,fun k hk=>(tT.block k (by have:=hB.size;omega) (by omega)).trans (hB.block k hk)⟩
 clear tT hb hss g0 g1 g2 g3 g4 hE
 have e0:=p0.at
 go_wp2_with fail
 exact bodyPost_ret (v:=.tuple #[.string ⟨#[]⟩,.int .i64 X]) (results_two Tryz.results24 (by rfl) (by rfl)) rfl ⟨rfl,hB⟩
theorem enterUnboxCl (args:Array Value) (w:World):(callFunc 73 args).run Tryz.prog w=.ok (.enter 73 args) w:=by kernel_rfl
theorem Unbox_cl (b0 b1 b2 b3:Nat) (k:Nat→Int) (mk:ByteArray) (m:ByteArray) (MS:ByteArray) (u:World) (hE:Env u) (c0:ArrAt u b0 .u8 22 32 k) (c1:CAt u b1 9 (.string mk)) (c2:CAt u b2 9 (.string m)) (c3:CAt u b3 9 (.string ⟨#[]⟩))
  (hst:∀ u,Env u→Calls Tryz.prog 74 #[.agg (WA .u8 32 k),.string mk,.string m] u fun e w'=>e=.returned (.string MS)∧Below u.heap.size u w') :
  Calls Tryz.prog 73 #[.pointer (some ⟨b0,0,none⟩),.pointer (some ⟨b1,0,none⟩),.pointer (some ⟨b2,0,none⟩),.pointer (some ⟨b3,0,none⟩)] u fun e w'=>e=.returned (.tuple #[])∧CAt w' b3 9 (.string MS)∧Touch (fun x=>x=b3) u w':=by
 have touch_or0:∀ {p q:World},Only b3 p q→Touch (fun x=>x=b3) p q:=fun o=>⟨o.os,o.tape,o.output,by rw[o.size];exact Nat.le_refl _,fun k _ hn=>o.block k (fun h=>hn (by simp[h]))⟩
 have e1:=c1.at
 have e2:=c2.at
 go_enter Tryz.func73,Tryz.ntmps73
 go_wp2_with (first|(refine ld_arr isArr32 c0 (by rfl) ?_))
 refine (hst _ hE).mono ?_
 rintro x v1 ⟨rfl,hb⟩
 replace c3:=c3.kept hb
 have ht:Touch (fun x=>x=b3) u v1:=touch_le hb
 clear hb
 have s0:=c3.at
 have z0:=c3.free
 have d0:=Hid.mk (c3.set (.string MS))
 have ht0:Touch (fun x=>x=b3) u (v1.setCell ⟨b3,0,none⟩ (.string MS)):=touch_tr ht (touch_or0 only_set)
 replace ht:=ht0
 clear ht0 c3
 go_wp2_with fail
 exact bodyPost_end (results_none rfl _ _ _) rfl ⟨rfl,d0.out,ht⟩
theorem Unbox_cn (b0 b1 b2 b3:Nat) (k:Nat→Int) (mk:ByteArray) (m:ByteArray) (X:Int) (u:World) (hE:Env u) (c0:ArrAt u b0 .u8 22 32 k) (c1:CAt u b1 9 (.string mk)) (c2:CAt u b2 9 (.string m))
  (hst:∀ u,Env u→Calls Tryz.prog 74 #[.agg (WA .u8 32 k),.string mk,.string m] u fun e w'=>e=gup X∧Below u.heap.size u w') :
  Calls Tryz.prog 73 #[.pointer (some ⟨b0,0,none⟩),.pointer (some ⟨b1,0,none⟩),.pointer (some ⟨b2,0,none⟩),.pointer (some ⟨b3,0,none⟩)] u fun e w'=>e=gup X∧Below u.heap.size u w':=by
 have e1:=c1.at
 have e2:=c2.at
 go_enter Tryz.func73,Tryz.ntmps73
 go_wp2_with (first|(refine ld_arr isArr32 c0 (by rfl) ?_))
 refine (hst _ hE).mono ?_
 rintro x v1 ⟨rfl,hb⟩
 exact ⟨rfl,rfl,hb⟩
set_option linter.unusedVariables false in
theorem Unbox_ok (k:Nat→Int) (mk:ByteArray) (m:ByteArray) (MS:ByteArray) (w:World) (hE:Env w)
  (hst:∀ u,Env u→Calls Tryz.prog 74 #[.agg (WA .u8 32 k),.string mk,.string m] u fun e w'=>e=.returned (.string MS)∧Below u.heap.size u w') :
  Calls Tryz.prog 26 #[.agg (WA .u8 32 k),.string mk,.string m] w fun e w'=>e=.returned (.tuple #[.string MS,.int .i64 0])∧Below w.heap.size w w':=by
 have hB:Below w.heap.size w ((((w.alloc (.cells (WA .u8 32 k) 22)).alloc (.cells #[.string mk] 9)).alloc (.cells #[.string m] 9)).alloc (.cells #[.string ⟨#[]⟩] 9)):=((((Below.refl _ w).alloc (by simp) _).alloc (by simp) _).alloc (by simp;omega) _).alloc (by simp;omega) _
 have g0:ArrAt ((((w.alloc (.cells (WA .u8 32 k) 22)).alloc (.cells #[.string mk] 9)).alloc (.cells #[.string m] 9)).alloc (.cells #[.string ⟨#[]⟩] 9)) w.heap.size .u8 22 32 k:=heap_keep_alloc _ (heap_keep_alloc _ (heap_keep_alloc _ (heap_at_alloc w _ w.heap.size (by simp))))
 have g1:CAt ((((w.alloc (.cells (WA .u8 32 k) 22)).alloc (.cells #[.string mk] 9)).alloc (.cells #[.string m] 9)).alloc (.cells #[.string ⟨#[]⟩] 9)) (w.heap.size+1) 9 (.string mk):=heap_keep_alloc _ (heap_keep_alloc _ (heap_at_alloc (w.alloc (.cells (WA .u8 32 k) 22)) _ (w.heap.size+1) (by simp)))
 have g2:CAt ((((w.alloc (.cells (WA .u8 32 k) 22)).alloc (.cells #[.string mk] 9)).alloc (.cells #[.string m] 9)).alloc (.cells #[.string ⟨#[]⟩] 9)) (w.heap.size+1+1) 9 (.string m):=heap_keep_alloc _ (heap_at_alloc ((w.alloc (.cells (WA .u8 32 k) 22)).alloc (.cells #[.string mk] 9)) _ (w.heap.size+1+1) (by simp))
 have g3:CAt ((((w.alloc (.cells (WA .u8 32 k) 22)).alloc (.cells #[.string mk] 9)).alloc (.cells #[.string m] 9)).alloc (.cells #[.string ⟨#[]⟩] 9)) (w.heap.size+1+1+1) 9 (.string ⟨#[]⟩):=heap_at_alloc (((w.alloc (.cells (WA .u8 32 k) 22)).alloc (.cells #[.string mk] 9)).alloc (.cells #[.string m] 9)) _ (w.heap.size+1+1+1) (by simp)
 replace hE:=hE.kept hB
 have hss:(((((w.alloc (.cells (WA .u8 32 k) 22)).alloc (.cells #[.string mk] 9)).alloc (.cells #[.string m] 9)).alloc (.cells #[.string ⟨#[]⟩] 9))).heap.size=w.heap.size+1+1+1+1:=by simp
 have hAt:=attempt_run 73 #[.pointer (some ⟨w.heap.size,0,none⟩),.pointer (some ⟨(w.heap.size+1),0,none⟩),.pointer (some ⟨(w.heap.size+1+1),0,none⟩),.pointer (some ⟨(w.heap.size+1+1+1),0,none⟩)] (fun x=>x=(w.heap.size+1+1+1)) (fun x v=>x=0∧CAt v (w.heap.size+1+1+1) 9 (.string MS)) ((((w.alloc (.cells (WA .u8 32 k) 22)).alloc (.cells #[.string mk] 9)).alloc (.cells #[.string m] 9)).alloc (.cells #[.string ⟨#[]⟩] 9)) enterUnboxCl (fun x hx=>by simp at hx ⊢;omega) (fun u hu=>by
  refine ((Unbox_cl w.heap.size (w.heap.size+1) (w.heap.size+1+1) (w.heap.size+1+1+1) k mk m MS u (hE.kept hu) (g0.kept hu) (g1.kept hu) (g2.kept hu) (g3.kept hu)   hst).mono ?_)
  rintro e v ⟨rfl,p0,ht⟩
  exact ⟨ht,0,.inl ⟨rfl,rfl⟩,rfl,p0⟩)
 have hmf:∀ (fn:Fn) (first cap:Array Value) (w:World),(Instr.makeFunc fn first cap).run Tryz.prog w=.ok (.func fn first cap) w:=fun _ _ _ _=>rfl
 go_enter Tryz.func26,Tryz.ntmps26
 go_wp2_with fail
 refine hAt.mono ?_
 rintro e v0 ⟨x,vc,rfl,⟨hx,p0⟩,tT,hb⟩
 have hx':=hx.symm
 clear hx
 subst hx'
 clear hAt hmf
 replace p0:=p0.block (hb.block (w.heap.size+1+1+1) (by omega))
 replace hB:Below w.heap.size w v0:=⟨tT.os.trans hB.os,tT.tape.trans hB.tape,tT.output.trans hB.output,Nat.le_trans hB.size tT.size,fun k hk=>(tT.block k (by have:=hB.size;omega) (by omega)).trans (hB.block k hk)⟩
 clear tT hb hss g0 g1 g2 g3 hE
 have e0:=p0.at
 go_wp2_with fail
 exact bodyPost_ret (v:=.tuple #[.string MS,.int .i64 0]) (results_two Tryz.results26 (by rfl) (by rfl)) rfl ⟨rfl,hB⟩
set_option linter.unusedVariables false in
theorem Unbox_no (k:Nat→Int) (mk:ByteArray) (m:ByteArray) (X:Int) (w:World) (hE:Env w)
  (hst:∀ u,Env u→Calls Tryz.prog 74 #[.agg (WA .u8 32 k),.string mk,.string m] u fun e w'=>e=gup X∧Below u.heap.size u w') :
  Calls Tryz.prog 26 #[.agg (WA .u8 32 k),.string mk,.string m] w fun e w'=>e=.returned (.tuple #[.string ⟨#[]⟩,.int .i64 X])∧Below w.heap.size w w':=by
 have hB:Below w.heap.size w ((((w.alloc (.cells (WA .u8 32 k) 22)).alloc (.cells #[.string mk] 9)).alloc (.cells #[.string m] 9)).alloc (.cells #[.string ⟨#[]⟩] 9)):=((((Below.refl _ w).alloc (by simp) _).alloc (by simp) _).alloc (by simp;omega) _).alloc (by simp;omega) _
 have g0:ArrAt ((((w.alloc (.cells (WA .u8 32 k) 22)).alloc (.cells #[.string mk] 9)).alloc (.cells #[.string m] 9)).alloc (.cells #[.string ⟨#[]⟩] 9)) w.heap.size .u8 22 32 k:=heap_keep_alloc _ (heap_keep_alloc _ (heap_keep_alloc _ (heap_at_alloc w _ w.heap.size (by simp))))
 have g1:CAt ((((w.alloc (.cells (WA .u8 32 k) 22)).alloc (.cells #[.string mk] 9)).alloc (.cells #[.string m] 9)).alloc (.cells #[.string ⟨#[]⟩] 9)) (w.heap.size+1) 9 (.string mk):=heap_keep_alloc _ (heap_keep_alloc _ (heap_at_alloc (w.alloc (.cells (WA .u8 32 k) 22)) _ (w.heap.size+1) (by simp)))
 have g2:CAt ((((w.alloc (.cells (WA .u8 32 k) 22)).alloc (.cells #[.string mk] 9)).alloc (.cells #[.string m] 9)).alloc (.cells #[.string ⟨#[]⟩] 9)) (w.heap.size+1+1) 9 (.string m):=heap_keep_alloc _ (heap_at_alloc ((w.alloc (.cells (WA .u8 32 k) 22)).alloc (.cells #[.string mk] 9)) _ (w.heap.size+1+1) (by simp))
 have g3:CAt ((((w.alloc (.cells (WA .u8 32 k) 22)).alloc (.cells #[.string mk] 9)).alloc (.cells #[.string m] 9)).alloc (.cells #[.string ⟨#[]⟩] 9)) (w.heap.size+1+1+1) 9 (.string ⟨#[]⟩):=heap_at_alloc (((w.alloc (.cells (WA .u8 32 k) 22)).alloc (.cells #[.string mk] 9)).alloc (.cells #[.string m] 9)) _ (w.heap.size+1+1+1) (by simp)
 replace hE:=hE.kept hB
 have hss:(((((w.alloc (.cells (WA .u8 32 k) 22)).alloc (.cells #[.string mk] 9)).alloc (.cells #[.string m] 9)).alloc (.cells #[.string ⟨#[]⟩] 9))).heap.size=w.heap.size+1+1+1+1:=by simp
 have hAt:=attempt_run 73 #[.pointer (some ⟨w.heap.size,0,none⟩),.pointer (some ⟨(w.heap.size+1),0,none⟩),.pointer (some ⟨(w.heap.size+1+1),0,none⟩),.pointer (some ⟨(w.heap.size+1+1+1),0,none⟩)] (fun x=>x=(w.heap.size+1+1+1)) (fun x v=>x=X∧CAt v (w.heap.size+1+1+1) 9 (.string ⟨#[]⟩)) ((((w.alloc (.cells (WA .u8 32 k) 22)).alloc (.cells #[.string mk] 9)).alloc (.cells #[.string m] 9)).alloc (.cells #[.string ⟨#[]⟩] 9)) enterUnboxCl (fun x hx=>by simp at hx ⊢;omega) (fun u hu=>by
  refine ((Unbox_cn w.heap.size (w.heap.size+1) (w.heap.size+1+1) (w.heap.size+1+1+1) k mk m X u (hE.kept hu) (g0.kept hu) (g1.kept hu) (g2.kept hu) hst).mono ?_)
  rintro e v ⟨rfl,hb⟩
  exact ⟨touch_le hb,X,.inr rfl,rfl,(g3.kept hu).kept hb⟩)
 have hmf:∀ (fn:Fn) (first cap:Array Value) (w:World),(Instr.makeFunc fn first cap).run Tryz.prog w=.ok (.func fn first cap) w:=fun _ _ _ _=>rfl
 go_enter Tryz.func26,Tryz.ntmps26
 go_wp2_with fail
 refine hAt.mono ?_
 rintro e v0 ⟨x,vc,rfl,⟨hx,p0⟩,tT,hb⟩
 have hx':=hx.symm
 clear hx
 subst hx'
 clear hAt hmf
 replace p0:=p0.block (hb.block (w.heap.size+1+1+1) (by omega))
 replace hB:Below w.heap.size w v0:=⟨tT.os.trans hB.os,tT.tape.trans hB.tape,tT.output.trans hB.output,Nat.le_trans hB.size tT.size,fun k hk=>(tT.block k (by have:=hB.size;omega) (by omega)).trans (hB.block k hk)⟩
 clear tT hb hss g0 g1 g2 g3 hE
 have e0:=p0.at
 go_wp2_with fail
 exact bodyPost_ret (v:=.tuple #[.string ⟨#[]⟩,.int .i64 X]) (results_two Tryz.results26 (by rfl) (by rfl)) rfl ⟨rfl,hB⟩
end Go.Proofs.YthghcjepdhkfdaaGreatDoor
