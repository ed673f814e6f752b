/-
  Own text. What block and Block of package chacha give.
-/
import Derived.Test.YtfgebcemdjplnaaB5
namespace Go.Proofs.Ytfgebcemdjplnaa
open Go.RowKit Go.Proofs
/-- The bytes of the first k words. -/
def pw (f : Nat → Int) : Nat → Nat → Int
  | 0 => fun _ => 0
  | k + 1 => putw (pw f k) k (f k)
theorem pw_byts (f : Nat → Int) (n : Nat) : ∀ k, Byts n (pw f k)
  | 0 => fun i _ => by simp [pw]
  | k + 1 => putw_byts (pw_byts f n k)
theorem pw_congr {f g : Nat → Int} : ∀ {k : Nat}, (∀ i, i < k → f i = g i) → pw f k = pw g k
  | 0, _ => rfl
  | k + 1, h => by unfold pw; rw [pw_congr (fun i hi => h i (by omega)), h k (by omega)]
/-- The words of a block: those behind the rounds and those ahead of them. -/
def bsum (s : Nat → Int) (i : Nat) : Int := addw (rnds s 10 i) (s i)
def blk (s : Nat → Int) : Nat → Int := pw (bsum s) 16
theorem exec_sl {a : Act} {o : Oper} {w : World} {x : Operand} {t : TypeId} (ho : o.op = .slice t x none none none) {v r : Value} (hx : a.eval x = v) (hr : (Instr.sliceAt t v none none none).run Try.prog w = .ok r w) : (execOp a.eval o).run Try.prog w = .ok (.value r) w := by
  unfold execOp
  simp [ho, hx, hr]
theorem sl64 (b : Nat) (w : World) : (Instr.sliceAt 33 (.pointer (some ⟨b, 0, none⟩)) none none none).run Try.prog w = .ok (.slice (some ⟨b, 0, none⟩) 64 64) w := by simp [go_sem]
theorem sl32 (b : Nat) (w : World) : (Instr.sliceAt 29 (.pointer (some ⟨b, 0, none⟩)) none none none).run Try.prog w = .ok (.slice (some ⟨b, 0, none⟩) 32 32) w := by simp [go_sem]
theorem exec_idxA {a : Act} {o : Oper} {w : World} {x y : Operand} {t : TypeId} {n : Nat} (ho : o.op = .indexAddr t x y) (ht : Try.prog.underlying t = some (.array (Try.prog.arrayLen t) (Try.prog.elem t))) (hn : Try.prog.arrayLen t = n) (h1 : ∀ w, (sizeOf (Try.prog.elem t)).run Try.prog w = .ok 1 w)
    {b i : Nat} (hx : a.eval x = .pointer (some ⟨b, 0, none⟩)) (hy : a.eval y = .int .i64 (i : Int)) (hi : i < n) : (execOp a.eval o).run Try.prog w = .ok (.value (.pointer (some ⟨b, i, none⟩))) w := by
  unfold execOp
  simp only [ho, hx, hy, Sem.run_bind]
  rw [run_indexAt_array w t _ .i64 (i : Int) ht, if_pos ⟨by omega, by omega⟩, h1]
  simp only [Result.andThen_ok, Addr.add_lit, Int.toNat_natCast, Nat.mul_one, Nat.zero_add, Sem.run_pure]
theorem undSq : Try.prog.underlying 44 = some (.array (Try.prog.arrayLen 44) (Try.prog.elem 44)) := Try.underlying44
theorem lenSq : Try.prog.arrayLen 44 = 16 := by kernel_rfl
theorem sizeSq (w : World) : (sizeOf (Try.prog.elem 44)).run Try.prog w = .ok 1 w := by kernel_rfl
theorem exec_add32 {a : Act} {o : Oper} {w : World} {x y : Operand} (ho : o.op = .binOp .add 22 x y 22) {m n : Int} (hx : a.eval x = .int .u32 m) (hy : a.eval y = .int .u32 n) :
    (execOp a.eval o).run Try.prog w = .ok (.value (.int .u32 (addw m n))) w := exec_bin ho rfl hx hy (by simp [go_sem, addw, IntKind.wrap_u32'])
theorem enterPut (args : Array Value) (w : World) : (callFunc 28 args).run Try.prog w = .ok (.enter 28 args) w := by kernel_rfl
theorem drop_arr {w : World} {b : Nat} {k : IntKind} {t : TypeId} {n : Nat} {s : Nat → Int} (h : ArrAt w b k t n s) : ContOK (isOb (WA k n s) t) w b := obIn h
set_option maxHeartbeats 2000000 in
theorem block_run (s : Nat → Int) (w : World) (hs : ∀ i, i < 16 → W32 (s i)) :
    Calls Try.prog 21 #[.agg (WA .u32 16 s)] w fun e w' => e = .returned (.agg (WA .u8 64 (blk s))) ∧ Below w.heap.size w w' := by
  have g0 : ArrAt ((w.alloc (.cells (WA .u32 16 s) 44)).alloc (.cells (WA .u8 64 fun _ => 0) 33)) w.heap.size .u32 44 16 s := heap_alloc2_old w _ _
  have g1 : ArrAt ((w.alloc (.cells (WA .u32 16 s) 44)).alloc (.cells (WA .u8 64 fun _ => 0) 33)) (w.heap.size + 1) .u8 33 64 (fun _ => 0) := heap_alloc2_new w _ _
  have hB : Below w.heap.size w ((w.alloc (.cells (WA .u32 16 s) 44)).alloc (.cells (WA .u8 64 fun _ => 0) 33)) := ((Below.refl _ w).alloc (by simp) _).alloc (by simp) _
  go_enter Try.func21, Try.ntmps21
  go_wp2_with (first | (refine ld_arr isSq g0 (by rfl) ?_))
  refine (rounds_run s _ hs).mono ?_
  rintro e v1 ⟨rfl, hb⟩
  replace g0 := g0.kept hb
  replace g1 := g1.kept hb
  replace hB := hB.trans (hb.mono hB.size)
  clear hb
  have W1 := rnds_w hs 10
  have HE : Hid (∀ i, addw (rnds s 10 i) (s i) = bsum s i) := Hid.mk (fun _ => rfl)
  have HP : Hid (pw (bsum s) 16 = blk s) := Hid.mk rfl
  generalize rnds s 10 = r at *
  go_wp2_with (first | (refine st_arr (s' := fun _ => 0) (k' := .u32) isSq (heap_alloc_new v1 _) (by rfl) (by rfl) ?_; intro v2 g3 o3; refine Hid.out ?_))
  have hs1 := g1.lt
  replace g0 := (g0.alloc _).only o3 (Nat.ne_of_lt g0.lt)
  replace g1 := (g1.alloc _).only o3 (Nat.ne_of_lt g1.lt)
  replace hB := (hB.alloc hB.size _).trans (o3.below hB.size)
  clear o3
  generalize v1.heap.size = B3 at *
  refine Hid.mk ?_
  go_wp2_with fail
  have g4 : ArrAt (v2.alloc (.cells (WA .u8 64 fun _ => 0) 33)) v2.heap.size .u8 33 64 (pw (bsum s) 0) := heap_alloc_new v2 _
  have hs2 := g3.lt
  go_loopg [8] 16 (fun m i v => ∃ k : Nat, Hid (m + k = 16) ∧ i = .int .i64 k ∧ ArrAt v w.heap.size .u32 44 16 s ∧ ArrAt v (w.heap.size + 1) .u8 33 64 (fun _ => 0) ∧ ArrAt v B3 .u32 44 16 r ∧ ArrAt v v2.heap.size .u8 33 64 (pw (bsum s) k) ∧ Below w.heap.size w v)
  case atStart => exact ⟨0, Hid.mk rfl, rfl, g0.alloc _, g1.alloc _, g3.alloc _, g4, hB.alloc hB.size _⟩
  case round =>
    clear g0 g1 g3 g4 hB
    obtain ⟨k, HK, rfl, g0, g1, g3, g4, hB⟩ := hrel
    generalize v2.heap.size = B4 at *
    have hk16 : k ≤ 16 := by have := HK.out; omega
    by_cases hlt : k < 16
    · go_wp2_with fail
      refine wp_region3 (Below w.heap.size w) wr.heap.size
        [(B3, fixd (WA .u32 16 r) 44), (w.heap.size, fixd (WA .u32 16 s) 44), (B4, once (WA .u8 64 (pw (bsum s) k)) 33 9 (WA .u8 64 (pw (bsum s) (k + 1)))), ((w.heap.size + 1), fixd (WA .u8 64 (fun _ => 0)) 33)]
        [kv (.slice (some ⟨B4, 0, none⟩) 64 64), kv (.int .i64 (k : Int)), kv (.int .i64 (k : Int)), kv (.pointer (some ⟨B3, k, none⟩)), kv (.int .u32 (r k)), kv (.int .i64 (k : Int)), kv (.pointer (some ⟨w.heap.size, k, none⟩)), kv (.int .u32 (s k)), kv (.int .u32 (bsum s k)), kv (.tuple #[])]
        [.none, .none, .none, .none, .none, .none, .none, .none, .none, .base 2 1]
        [some 11, some 12, some 13, some 14, some 15, some 16, some 17, some 18, some 19, some 20]
        [(1, .pointer (some ⟨w.heap.size, 0, none⟩)), (3, .pointer (some ⟨B3, 0, none⟩)), (4, .pointer (some ⟨B4, 0, none⟩)), (5, .int .i64 (k : Int))]
        [[], [], [], [.slot 2], [.slot 3, .base 0 0], [], [.slot 5], [.slot 6, .base 1 0], [.slot 4, .slot 7], [.slot 0, .slot 1, .slot 8, .base 2 0]]
        [.base 0 0, .base 1 0, .base 2 1, .base 3 0] [11, 12, 13, 14, 15, 16, 17, 18, 19, 20]
        rfl (by kernel_rfl) ⟨rfl, rfl, rfl, rfl, trivial⟩ (Below.drew hB) (Nat.le_refl _) ⟨⟨g3.lt, obIn g3⟩, ⟨g0.lt, obIn g0⟩, ⟨g4.lt, obIn g4⟩, ⟨g1.lt, obIn g1⟩, trivial⟩ ⟨⟨trivial, (show (B3 : Nat) ≠ B4 from by omega), trivial, trivial⟩, ⟨(show (w.heap.size : Nat) ≠ B4 from by omega), trivial, trivial⟩, ⟨(show (B4 : Nat) ≠ (w.heap.size + 1) from by omega), trivial⟩, trivial, trivial⟩ (below_G hB.size ⟨by omega, by omega, by omega, by omega, trivial⟩)
        ⟨
          -- 0
          (fun Q aq ww own hS hBg fr kn => .inl ⟨trivial, fun K hK => wp_value (exec_sl rfl fr.2.2.1 (sl64 _ _)) (hK _ _ ⟨Touch.refl _ _, rfl⟩)⟩),
          -- 1
          (fun Q aq ww own hS hBg fr kn => .inl ⟨trivial, fun K hK => wp_value (exec_move rfl fr.2.2.2.1) (hK _ _ ⟨Touch.refl _ _, rfl⟩)⟩),
          -- 2
          (fun Q aq ww own hS hBg fr kn => .inl ⟨trivial, fun K hK => wp_value (exec_move rfl fr.2.2.2.1) (hK _ _ ⟨Touch.refl _ _, rfl⟩)⟩),
          -- 3
          (fun Q aq ww own hS hBg fr kn => .inl ⟨trivial, fun K hK => wp_value (exec_idxA rfl undSq lenSq sizeSq fr.2.1 kn.1 hlt) (hK _ _ ⟨Touch.refl _ _, rfl⟩)⟩),
          -- 4
          (fun Q aq ww own hS hBg fr kn => .inl ⟨trivial, fun K hK => wp_value (exec_ld rfl kn.1 (run_load32 (ArrAt.cell (obAt kn.2.1) k hlt))) (hK _ _ ⟨Touch.refl _ _, rfl⟩)⟩),
          -- 5
          (fun Q aq ww own hS hBg fr kn => .inl ⟨trivial, fun K hK => wp_value (exec_move rfl fr.2.2.2.1) (hK _ _ ⟨Touch.refl _ _, rfl⟩)⟩),
          -- 6
          (fun Q aq ww own hS hBg fr kn => .inl ⟨trivial, fun K hK => wp_value (exec_idxA rfl undSq lenSq sizeSq fr.1 kn.1 hlt) (hK _ _ ⟨Touch.refl _ _, rfl⟩)⟩),
          -- 7
          (fun Q aq ww own hS hBg fr kn => .inl ⟨trivial, fun K hK => wp_value (exec_ld rfl kn.1 (run_load32 (ArrAt.cell (obAt kn.2.1) k hlt))) (hK _ _ ⟨Touch.refl _ _, rfl⟩)⟩),
          -- 8
          (fun Q aq ww own hS hBg fr kn => .inl ⟨trivial, fun K hK => wp_value (exec_add32 rfl kn.1 kn.2.1) (hK _ _ ⟨Touch.refl _ _, congrArg (Value.int .u32) (HE.out k)⟩)⟩),
          -- 9
          (fun Q aq ww own hS hBg fr kn => .inl ⟨trivial, fun K hK => stepp enterPut rfl (args3 kn.1 kn.2.1 kn.2.2.1) ((putWord_arr B4 64 (pw (bsum s) k) k (bsum s k) ww (obAt kn.2.2.2.1) (by rw [← HE.out k]; exact addw_w _ _) (by omega) (by omega)).mono (fun e w' ⟨he, h1, h2⟩ => ⟨_, he, rfl, h1, h2⟩)) (R := fun u w' => u = .tuple #[] ∧ ArrAt w' B4 .u8 _ 64 (putw (pw (bsum s) k) k (bsum s k)) ∧ Only B4 ww w') (fun v w' ⟨hv, h1, h2⟩ => hK _ _ ⟨⟨touch_only h2, obIn h1⟩, hv⟩)⟩),
          trivial⟩ ?_
      intro vs own v5 hB5 hs5 kn inj
      clear inj
      have G3 := obAt kn.1
      have G0 := obAt kn.2.1
      have G4 := obAt kn.2.2.1
      have G1 : ArrAt v5 (w.heap.size + 1) .u8 33 64 (fun _ => 0) := obAt kn.2.2.2.1
      simp only [putAll, Act.put, List.setIfInBounds_toArray, List.set_cons_zero, List.set_cons_succ]
      go_wp2_with fail
      go_roundg (16 - (k + 1))
      case rel => exact ⟨k + 1, Hid.mk (by omega), by go_num, G0, G1, G3, G4, hB5⟩
      case measure => have := HK.out; omega
    · have hk2 : k = 16 := by omega
      subst hk2
      clear hlt hk16 HK
      rw [HP.out] at g4
      go_wp2_with (first | (refine ld_arr isArr64 g4 (by rfl) ?_) | (refine st_arr isArr64 g1 (by rfl) (by rfl) ?_; intro v4 g5 o5))
      exact bodyPost_ret (v := .agg (WA .u8 64 (blk s))) (res_arr rfl isArr64 g5 rfl) rfl ⟨rfl, hB.trans (o5.below (by omega))⟩
end Go.Proofs.Ytfgebcemdjplnaa
