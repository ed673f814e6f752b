/-
  Own text. The program's own Text.
-/
import Derived.Test.YtdlepeogmjmleaaDoorJ3
import Derived.Lib.ConvBytes
import Derived.Lib.AtoiErrMem
import Derived.Lib.ParseIntBMem
import Derived.Laws.Closers25b
import Derived.Test.YtdlepeogmjmleaaDoorRows
import Derived.Test.YtdlepeogmjmleaaDoorTie
import Derived.Test.YtdlepeogmjmleaaDoorCards
import Derived.ProofKit
import Derived.LaidMore
import Derived.OpenShut
import Derived.Stop.Joined
import Derived.Stop.LaidErr
import Derived.SevenTiedAt
import Derived.Deep.DeepHandedRow
import Derived.Lib.LaidTab
import Derived.Shelf.Vars
import Derived.LaidLaws
import Derived.ChangeSlices
import Derived.Deep.Slices
import Derived.ChangeSame
namespace Go.Proofs.YtdlepeogmjmleaaDoor
open Go.RowKit Go.Proofs
set_option maxRecDepth 100000
theorem isS8 : IsSt 52 8 := ⟨_, Tryd.underlying52, rfl, by kernel_rfl⟩
theorem isS4 : IsSt 55 4 := ⟨_, Tryd.underlying55, rfl, by kernel_rfl⟩
theorem zeroS8 (w : World) : (zeroValue 52).run Tryd.prog w = .ok (.agg (SC 8 fun _ => Value.string ByteArray.empty)) w := by kernel_rfl
theorem zeroS4 (w : World) : (zeroValue 55).run Tryd.prog w = .ok (.agg (SC 4 fun _ => Value.string ByteArray.empty)) w := by kernel_rfl
theorem lenS8 : Tryd.prog.arrayLen 52 = 8 := by kernel_rfl
theorem lenS4 : Tryd.prog.arrayLen 55 = 4 := by kernel_rfl
theorem sizeS8 (w : World) : (sizeOf (Tryd.prog.elem 52)).run Tryd.prog w = .ok 1 w := by kernel_rfl
theorem sizeS4 (w : World) : (sizeOf (Tryd.prog.elem 55)).run Tryd.prog w = .ok 1 w := by kernel_rfl
theorem run_ix8 (V : Nat → ByteArray) (w : World) : ∀ j : Nat, j < 8 → (Instr.index 52 (.agg (SC 8 fun i => Value.string (V i))) (.int .i64 (j : Int))).run Tryd.prog w = .ok (.string (V j)) w
  | 0, _ => by kernel_rfl
  | 1, _ => by kernel_rfl
  | 2, _ => by kernel_rfl
  | 3, _ => by kernel_rfl
  | 4, _ => by kernel_rfl
  | 5, _ => by kernel_rfl
  | 6, _ => by kernel_rfl
  | 7, _ => by kernel_rfl
  | n + 8, h => by omega
def oneZ : ByteArray := ⟨#[48]⟩
theorem hex_zero {n : Nat} (hn : n < 65536) : hexS n = oneZ ↔ n = 0 := by
  constructor
  · intro h
    have h1 := hexT_pair hn
    have h2 : hexT n = [48] := by rw [← hexS_ls, h]; rfl
    rw [h2] at h1
    have h3 : pairV [48] = some 0 := by decide
    rw [h3] at h1
    injection h1 with h1
    exact h1.symm
  · rintro rfl
    rfl
section
variable {a : Act} {o : Oper} {w : World} {x y : Operand} {t : TypeId}
theorem exec_ix8 (ho : o.op = .index 52 x y) {V : Nat → ByteArray} {j : Nat} (hx : a.eval x = .agg (SC 8 fun i => Value.string (V i))) (hy : a.eval y = .int .i64 (j : Int)) (hj : j < 8) : (execOp a.eval o).run Tryd.prog w = .ok (.value (.string (V j))) w := by
  have h := run_ix8 V w j hj
  unfold execOp
  simp only [ho, hx, hy, Sem.run_bind, h, Result.andThen_ok, Sem.run_pure]
/-- A text is laid into a row of texts. -/
theorem wl_stS {ops : Array Oper} {rest : List Oper} {Q : Exit → Act → World → Prop} {g n i : Nat} {V : Nat → ByteArray} {s : ByteArray} {ty : TypeId} (ho : o.op = .store 9 x y) (hw : Region.wanted o (yielded ops a.tmps) = true) (hg : SAt w g ty n (fun j => Value.string (V j))) (hx : a.eval x = .pointer (some ⟨g, i, none⟩)) (hy : a.eval y = .string s) (hi : i < n)
    (h : ∀ w2, SAt w2 g ty n (fun j => Value.string (if j = i then s else V j)) → Only g w w2 → wpList Tryd.prog ops Q rest (a.put o.dst undef) w2) : wpList Tryd.prog ops Q (o :: rest) a w := by
  refine wl_act hw ?_
  have hc := SAt.at hg i hi
  have hf : w.frozen? ⟨g, i, none⟩ = false := frozen_of_row w g i _ _ hg
  have hr : (Instr.storeAt 9 (.pointer (some ⟨g, i, none⟩)) (.string s)).run Tryd.prog w = .ok () (w.setCell ⟨g, i, none⟩ (.string s)) := by simp [go_sem, hc, hf]
  unfold Oper.wp execOp
  simp only [ho, hx, hy, Sem.run_bind, hr, Result.andThen_ok, Sem.run_pure, Oper.upon]
  refine h _ ((hg.set i (.string s) hi).congr (fun j _ => ?_)) only_set
  by_cases e : j = i
  · rw [if_pos e, if_pos e]
  · rw [if_neg e, if_neg e]
end
set_option maxHeartbeats 4000000 in
theorem longestRow_run (pr : Nat → Nat) (w : World) (hp : ∀ i, i < 8 → pr i < 65536) : Calls Tryd.prog 32 #[.agg (SC 8 fun j => Value.string (hexS (pr j)))] w fun e w' => e = .returned (.tuple #[.int .i64 ((rowC (zP pr) 8).1 : Int), .int .i64 ((rowC (zP pr) 8).2.1 : Int)]) ∧ Below w.heap.size w w' := by
  have HZ : Hid (∀ i, i < 8 → decide (hexS (pr i) ≠ oneZ) = !(zP pr i)) := Hid.mk (fun i hi => by
    have := hex_zero (hp i hi)
    unfold zP
    by_cases e : pr i = 0
    · rw [decide_eq_true e, decide_eq_false (fun h => h (this.2 e))]; rfl
    · rw [decide_eq_false e, decide_eq_true (show hexS (pr i) ≠ oneZ from fun h => e (this.1 h))]; rfl)
  generalize zP pr = z at *
  clear hp
  go_enter Tryd.func32, Tryd.ntmps32
  go_wp2_with (refine wl_boxO rfl rfl isS8 (by rfl) ?_; intro g u1 hg g1 hB1; refine Hid.out ?_)
  refine Hid.mk ?_
  go_wp2_with (refine wl_value rfl (look_st rfl isS8 g1 (by rfl)) ?_)
  go_loopg [2, 3, 4, 8] 8 (fun gm s2 s3 s4 s8 y => ∃ k f m r : Nat, Hid (gm + k = 8) ∧ s8 = .int .i64 (k : Int) ∧ s2 = .int .i64 (f : Int) ∧ s3 = .int .i64 (m : Int) ∧ s4 = .int .i64 (r : Int) ∧ Hid (rowC z k = (f, m, r)) ∧ y = u1)
  case atStart => exact ⟨0, 0, 0, 0, Hid.mk rfl, rfl, rfl, rfl, rfl, Hid.mk rfl, rfl⟩
  case round =>
    obtain ⟨k, f, m, r, HK, rfl, rfl, rfl, rfl, HR, hz⟩ := hrel
    have hz2 := hz.symm
    subst hz2
    clear hz
    have hk8 : k ≤ 8 := by have := HK.out; omega
    have hb := rowC_b z k
    rw [HR.out] at hb
    have hb1 : f ≤ k := hb.1
    have hb2 : m ≤ k := hb.2.1
    have hb3 : r ≤ k := hb.2.2
    clear hb
    by_cases hk : k < 8
    · have hki : (k : Int) < 8 := by omega
      have HN := Hid.mk (HZ.out k hk)
      rcases Bool.eq_false_or_eq_true (z k) with hzk | hzk
      · rw [hzk] at HN
        by_cases hm : m < r + 1
        · have hmi : (m : Int) < (r : Int) + 1 := by omega
          obtain ⟨f2, hf2⟩ : ∃ f2, k - r = f2 := ⟨_, rfl⟩
          have hfi : (k : Int) + 1 - ((r : Int) + 1) = (f2 : Int) := by omega
          have HX : Hid (rowC z (k + 1) = (f2, r + 1, r + 1)) := Hid.mk (by rw [rowC, if_pos hzk, HR.out]; show (if m < r + 1 then _ else _) = _; rw [if_pos hm, hf2])
          clear hf2
          go_wp2_with (first | (refine wl_value rfl (exec_ix8 (V := fun j => hexS (pr j)) (j := k) rfl (by rfl) (by rfl) hk) ?_) | (refine wl_value rfl (exec_neSn (t := oneZ) rfl (by rfl) (by rfl) HN.out) ?_))
          go_roundg (8 - (k + 1))
          case rel => exact ⟨k + 1, f2, r + 1, r + 1, Hid.mk (by omega), by go_num, by congr 1, by go_num, by go_num, HX, rfl⟩
          case measure => have := HK.out; omega
        · have hmi : ¬ (m : Int) < (r : Int) + 1 := by omega
          have HX : Hid (rowC z (k + 1) = (f, m, r + 1)) := Hid.mk (by rw [rowC, if_pos hzk, HR.out]; show (if m < r + 1 then _ else _) = _; rw [if_neg hm])
          go_wp2_with (first | (refine wl_value rfl (exec_ix8 (V := fun j => hexS (pr j)) (j := k) rfl (by rfl) (by rfl) hk) ?_) | (refine wl_value rfl (exec_neSn (t := oneZ) rfl (by rfl) (by rfl) HN.out) ?_))
          go_roundg (8 - (k + 1))
          case rel => exact ⟨k + 1, f, m, r + 1, Hid.mk (by omega), by go_num, rfl, rfl, by go_num, HX, rfl⟩
          case measure => have := HK.out; omega
      · rw [hzk] at HN
        have HX : Hid (rowC z (k + 1) = (f, m, 0)) := Hid.mk (by rw [rowC, if_neg (by rw [hzk]; decide), HR.out])
        go_wp2_with (first | (refine wl_value rfl (exec_ix8 (V := fun j => hexS (pr j)) (j := k) rfl (by rfl) (by rfl) hk) ?_) | (refine wl_value rfl (exec_neSn (t := oneZ) rfl (by rfl) (by rfl) HN.out) ?_))
        go_roundg (8 - (k + 1))
        case rel => exact ⟨k + 1, f, m, 0, Hid.mk (by omega), by go_num, rfl, rfl, rfl, HX, rfl⟩
        case measure => have := HK.out; omega
    · have hk2 : k = 8 := by omega
      subst hk2
      go_wp2_with fail
      exact bodyPost_ret (results_two rfl (by rfl) (by rfl)) rfl ⟨by rw [HR.out]; rfl, hB1⟩
theorem joinC_len (c : UInt8) : ∀ L : List (List UInt8), (∀ p ∈ L, p.length ≤ 4) → (joinC c L).length ≤ 5 * L.length
  | [], _ => by simp [joinC]
  | [a], h => by
    have := h a (by simp)
    simp [joinC]
    omega
  | a :: b :: r, h => by
    have h1 := h a (by simp)
    have ih := joinC_len c (b :: r) (fun p hp => h p (by simp [hp]))
    rw [joinC]
    simp only [List.length_append, List.length_cons] at ih ⊢
    omega
theorem Join_run (g f n c : Nat) (V : Nat → List UInt8) (ch : UInt8) (w : World) (hc : ∀ j, j < n → w.cell? ⟨g, f + j, none⟩ = some (.string ⟨(V j).toArray⟩)) (hg : g < w.heap.size) (hn : n ≤ c) (hn8 : n ≤ 8) (hV : ∀ j, j < n → (V j).length ≤ 4) : Calls Tryd.prog 33 #[.slice (some ⟨g, f, none⟩) n c, .string ⟨#[ch]⟩] w fun e w' => e = .returned (.string ⟨(joinC ch ((List.range n).map V)).toArray⟩) ∧ Below w.heap.size w w' := by
  obtain ⟨xs, hx⟩ : ∃ xs : List ByteArray, xs = (List.range n).map fun j => ⟨(V j).toArray⟩ := ⟨_, rfl⟩
  have hl : xs.length = n := by rw [hx]; simp
  have hm : xs.map (·.data.toList) = (List.range n).map V := by rw [hx, List.map_map]; rfl
  have h := sh_strings_Join g f c xs ⟨#[ch]⟩ w (fun j x hj => by
    have hjn : j < n := by
      have := (List.getElem?_eq_some_iff.1 hj).1
      omega
    rw [hc j hjn]
    rw [hx, List.getElem?_map, List.getElem?_range hjn] at hj
    simp at hj
    rw [← hj]) hg (by omega) (by omega) (by
      rw [hm]
      show (Lib.join _ [ch]).length ≤ _
      rw [join_lib]
      have := joinC_len ch ((List.range n).map V) (fun p hp => by
        obtain ⟨j, hj, rfl⟩ := List.mem_map.1 hp
        exact hV j (List.mem_range.1 hj))
      rw [List.length_map, List.length_range] at this
      omega)
  rw [hl, hm] at h
  have e : Lib.join ((List.range n).map V) ([ch] : List UInt8) = joinC ch ((List.range n).map V) := join_lib ch _
  have e2 : Lib.join ((List.range n).map V) (⟨#[ch]⟩ : ByteArray).data.toList = joinC ch ((List.range n).map V) := e
  rw [e2] at h
  exact h
def fourS (b : Nat → Int) : ByteArray := ⟨(fourT (b 0).toNat (b 1).toNat (b 2).toNat (b 3).toNat).toArray⟩
theorem sl4s (g : Nat) (w : World) : (Instr.sliceAt 55 (.pointer (some ⟨g, 0, none⟩)) none none none).run Tryd.prog w = .ok (.slice (some ⟨g, 0, none⟩) 4 4) w := by simp [go_sem]
theorem sl8s (g : Nat) (w : World) : (Instr.sliceAt 52 (.pointer (some ⟨g, 0, none⟩)) none none none).run Tryd.prog w = .ok (.slice (some ⟨g, 0, none⟩) 8 8) w := by simp [go_sem]
theorem sl8h (g : Nat) (w : World) : ∀ n : Nat, n ≤ 8 → (Instr.sliceAt 52 (.pointer (some ⟨g, 0, none⟩)) none (some (.int .i64 (n : Int))) none).run Tryd.prog w = .ok (.slice (some ⟨g, 0, none⟩) n 8) w
  | 0, _ => by kernel_rfl
  | 1, _ => by kernel_rfl
  | 2, _ => by kernel_rfl
  | 3, _ => by kernel_rfl
  | 4, _ => by kernel_rfl
  | 5, _ => by kernel_rfl
  | 6, _ => by kernel_rfl
  | 7, _ => by kernel_rfl
  | 8, _ => by kernel_rfl
  | n + 9, h => by omega
theorem sl8e (g : Nat) (w : World) : (Instr.sliceAt 52 (.pointer (some ⟨g, 0, none⟩)) (some (.int .i64 8)) none none).run Tryd.prog w = .ok (.slice (some ⟨g, 0, none⟩) 0 0) w := by kernel_rfl
set_option maxHeartbeats 4000000 in
theorem text4_run (v : Bool) (b : Nat → Int) (w : World) (hb : Byts 16 b) (hE : Env w) : Calls Tryd.prog 22 #[.agg (SC 17 (adV v b))] w fun e w' => e = .returned (.string (fourS b)) ∧ Below w.heap.size w w' := by
  go_enter Tryd.func22, Tryd.ntmps22
  go_wp2_with (refine wl_boxO rfl rfl isAddr (by rfl) ?_; intro g u1 hg g1 hB1; refine Hid.out ?_)
  refine Hid.mk ?_
  go_wp2_with (refine wl_alO rfl rfl zeroS4 ?_; intro g3 u2 hg3 q3 hB2; refine Hid.out ?_)
  refine Hid.mk ?_
  have p1 := SAt.kept g1 hB2
  have hBa := hB1.trans (hB2.mono hB1.size)
  have hg3w : w.heap.size ≤ g3 := by have := hB1.size; omega
  have hne : g ≠ g3 := by have := SAt.lt g1; omega
  have HS : Hid (SAt u2 g 24 17 (adV v b) ∧ SAt u2 g3 55 4 (fun _ => Value.string ByteArray.empty) ∧ Env u2 ∧ Below w.heap.size w u2) := Hid.mk ⟨p1, q3, hE.kept hBa, hBa⟩
  clear g1 q3 p1 hB1 hB2 hBa hg hg3
  go_wp2_with fail
  go_loopg [5] 4 (fun gm s5 z => ∃ k : Nat, Hid (gm + k = 4) ∧ s5 = .int .i64 (k : Int) ∧ Hid (SAt z g 24 17 (adV v b) ∧ SAt z g3 55 4 (fun j => Value.string (if j < k then decS (b j).toNat else ByteArray.empty)) ∧ Env z ∧ Below w.heap.size w z))
  case atStart => exact ⟨0, Hid.mk rfl, rfl, Hid.mk ⟨HS.out.1, HS.out.2.1.congr (fun j _ => by rw [if_neg (by omega)]), HS.out.2.2⟩⟩
  case round =>
    obtain ⟨k, HK, rfl, HR⟩ := hrel
    clear HS
    have hk4 : k ≤ 4 := by have := HK.out; omega
    obtain ⟨wI, hwI⟩ : ∃ x, x = wr := ⟨_, rfl⟩
    rw [← hwI] at HR ⊢
    clear hwI
    by_cases hk : k < 4
    · have hki : (k : Int) < 4 := by omega
      have hbk := hb k (by omega)
      obtain ⟨n, hn⟩ : ∃ n : Nat, b k = (n : Int) := ⟨(b k).toNat, by omega⟩
      have hn256 : n < 256 := by omega
      have cb := ad_b HR.out.1 k (by omega)
      rw [hn] at cb
      have HN := Hid.mk hn
      clear hn hbk
      go_wp2_with (first | (refine wl_value rfl (exec_fadW1 rfl (by rfl)) ?_) | (refine wl_value rfl (exec_ixW16 (k := k) rfl (by rfl) (by rfl) (by omega)) ?_) | (refine wl_value rfl (exec_ld rfl (by rfl) (ldW8 cb)) ?_) | (refine wl_value rfl (exec_cvW (m := (n : Int)) rfl (by rfl) (by omega) (by omega)) ?_) | (go_at_call 23; refine (Itoa_run n _ hn256 HR.out.2.2.1.1).mono ?_; rintro e w2 ⟨rfl, hB2⟩; refine Hid.out ?_))
      refine Hid.mk ?_
      have q2 := SAt.kept HR.out.2.1 hB2
      have p2 := SAt.kept HR.out.1 hB2
      go_wp2_with (first | (refine wl_value rfl (exec_idxA (i := k) rfl Tryd.underlying55 lenS4 sizeS4 (by rfl) (by rfl) hk) ?_) | (refine wl_stS rfl rfl q2 (by rfl) (by rfl) hk ?_; intro w3 q4 o3; refine Hid.out ?_))
      refine Hid.mk ?_
      have hB3 : Below w.heap.size w w3 := (HR.out.2.2.2.trans (hB2.mono HR.out.2.2.2.size)).trans (o3.below hg3w)
      have HX : Hid (SAt w3 g 24 17 (adV v b) ∧ SAt w3 g3 55 4 (fun j => Value.string (if j < k + 1 then decS (b j).toNat else ByteArray.empty)) ∧ Env w3 ∧ Below w.heap.size w w3) := Hid.mk ⟨p2.only o3 hne, q4.congr (fun j _ => by
        congr 1
        by_cases e : j = k
        · rw [if_pos e, if_pos (by omega), e, HN.out, Int.toNat_natCast]
        · rw [if_neg e]
          by_cases e2 : j < k
          · rw [if_pos e2, if_pos (by omega)]
          · rw [if_neg e2, if_neg (by omega)]), hE.kept hB3, hB3⟩
      clear q2 p2 q4 o3 hB2 HR
      go_wp2_with fail
      go_roundg (4 - (k + 1))
      case rel => exact ⟨k + 1, Hid.mk (by omega), by go_num, HX⟩
      case measure => have := HK.out; omega
    · have hk2 : k = 4 := by omega
      subst hk2
      have hJ := Join_run g3 0 4 4 (fun j => decT (b j).toNat) 46 wI (fun j hj => by
        rw [Nat.zero_add, SAt.at HR.out.2.1 j hj, if_pos hj]
        rfl) (SAt.lt HR.out.2.1) (Nat.le_refl _) (by omega) (fun j hj => by
          have h1 := hb j (by omega)
          have := (dec_b (n := (b j).toNat) (by omega)).2.2
          omega)
      have HJ := Hid.mk hJ
      clear hJ
      go_wp2_with (first | (refine wl_value rfl (exec_sl rfl (by rfl) (sl4s g3 _)) ?_) | (go_at_call 33; refine HJ.out.mono ?_; rintro e w2 ⟨rfl, hB2⟩; refine Hid.out ?_))
      refine Hid.mk ?_
      go_wp2_with fail
      go_ret
      exact ⟨rfl, HR.out.2.2.2.trans (hB2.mono HR.out.2.2.2.size)⟩
def prF (b : Nat → Int) (i : Nat) : Nat := (b (2 * i)).toNat * 256 + (b (2 * i + 1)).toNat
theorem prF_lt {b : Nat → Int} (hb : Byts 16 b) {i : Nat} (hi : i < 8) : prF b i < 65536 := by
  have h1 := hb (2 * i) (by omega)
  have h2 := hb (2 * i + 1) (by omega)
  unfold prF
  omega
def sixS (pr : Nat → Nat) : ByteArray := ⟨(textSix pr).toArray⟩
def ddS : ByteArray := ⟨#[58, 58]⟩
theorem enterW_FU (args : Array Value) (w : World) : (callFunc 31 args).run Tryd.prog w = .ok (.enter 31 args) w := by kernel_rfl
theorem enterW_Jo (args : Array Value) (w : World) : (callFunc 33 args).run Tryd.prog w = .ok (.enter 33 args) w := by kernel_rfl
theorem lsT_app (A B : ByteArray) : lsT (A ++ B) = lsT A ++ lsT B := by
  unfold lsT
  simp
theorem prL_range (pr : Nat → Nat) (a n : Nat) : (prL pr a n).map hexT = (List.range n).map fun j => hexT (pr (a + j)) := by
  unfold prL
  rw [List.range'_eq_map_range, List.map_map, List.map_map]
  rfl
set_option maxHeartbeats 8000000 in
theorem text6_run (v : Bool) (b : Nat → Int) (w : World) (hb : Byts 16 b) (hE : Env w) : Calls Tryd.prog 21 #[.agg (SC 17 (adV v b))] w fun e w' => e = .returned (.string (sixS (prF b))) ∧ Below w.heap.size w w' := by
  have HPL : Hid (∀ i, i < 8 → prF b i < 65536) := Hid.mk (fun i hi => prF_lt hb hi)
  obtain ⟨pr, hpr⟩ : ∃ pr, prF b = pr := ⟨_, rfl⟩
  rw [hpr] at HPL ⊢
  have HPP := Hid.mk hpr
  clear hpr
  go_enter Tryd.func21, Tryd.ntmps21
  go_wp2_with (refine wl_boxO rfl rfl isAddr (by rfl) ?_; intro g u1 hg g1 hB1; refine Hid.out ?_)
  refine Hid.mk ?_
  go_wp2_with (refine wl_alO rfl rfl zeroS8 ?_; intro g3 u2 hg3 q3 hB2; refine Hid.out ?_)
  refine Hid.mk ?_
  have p1 := SAt.kept g1 hB2
  have hBa := hB1.trans (hB2.mono hB1.size)
  have hg3w : w.heap.size ≤ g3 := by have := hB1.size; omega
  have hne : g ≠ g3 := by have := SAt.lt g1; omega
  have HS : Hid (SAt u2 g 24 17 (adV v b) ∧ SAt u2 g3 52 8 (fun _ => Value.string ByteArray.empty) ∧ Env u2 ∧ Below w.heap.size w u2) := Hid.mk ⟨p1, q3, hE.kept hBa, hBa⟩
  clear g1 q3 p1 hB1 hB2 hBa hg hg3
  go_wp2_with fail
  go_loopg [7] 8 (fun gm s7 z => ∃ k : Nat, Hid (gm + k = 8) ∧ s7 = .int .i64 (k : Int) ∧ Hid (SAt z g 24 17 (adV v b) ∧ SAt z g3 52 8 (fun j => Value.string (if j < k then hexS (pr j) else ByteArray.empty)) ∧ Env z ∧ Below w.heap.size w z))
  case atStart => exact ⟨0, Hid.mk rfl, rfl, Hid.mk ⟨HS.out.1, HS.out.2.1.congr (fun j _ => by rw [if_neg (by omega)]), HS.out.2.2⟩⟩
  case round =>
    obtain ⟨k, HK, rfl, HR⟩ := hrel
    clear HS
    have hk8 : k ≤ 8 := by have := HK.out; omega
    obtain ⟨wI, hwI⟩ : ∃ x, x = wr := ⟨_, rfl⟩
    rw [← hwI] at HR ⊢
    clear hwI
    by_cases hk : k < 8
    · have hki : (k : Int) < 8 := by omega
      have h1 := hb (2 * k) (by omega)
      have h2 := hb (2 * k + 1) (by omega)
      obtain ⟨X, hXe⟩ : ∃ X : Nat, b (2 * k) = (X : Int) := ⟨(b (2 * k)).toNat, by omega⟩
      obtain ⟨Y, hYe⟩ : ∃ Y : Nat, b (2 * k + 1) = (Y : Int) := ⟨(b (2 * k + 1)).toNat, by omega⟩
      have hX : X < 256 := by omega
      have hY : Y < 256 := by omega
      have HPR : Hid (pr k = X * 256 + Y) := Hid.mk (by rw [← HPP.out]; unfold prF; rw [hXe, hYe]; rfl)
      have HCX : Hid (∀ ww, Below wI.heap.size wI ww → ww.cell? ⟨g, 1 + (2 * k), none⟩ = some (.int .u8 (X : Int))) := Hid.mk (fun ww hh => by
        have := ad_b (SAt.kept HR.out.1 hh) (2 * k) (by omega)
        rw [hXe] at this
        exact this)
      have HCY : Hid (∀ ww, Below wI.heap.size wI ww → ww.cell? ⟨g, 1 + (2 * k + 1), none⟩ = some (.int .u8 (Y : Int))) := Hid.mk (fun ww hh => by
        have := ad_b (SAt.kept HR.out.1 hh) (2 * k + 1) (by omega)
        rw [hYe] at this
        exact this)
      have HEW : Hid (∀ ww, Below wI.heap.size wI ww → Env ww) := Hid.mk (fun ww hh => HR.out.2.2.1.kept hh)
      clear h1 h2 hXe hYe
      go_upto_region 5 with fail
      refine wp_region_cut 17 rfl (by kernel_rfl) (any_steps (Below wI.heap.size wI) (fun v v' => Below v.heap.size v v') (fun iq vq v0 => match iq with | 0 => vq = .int .i64 (k : Int) | 1 => vq = .int .i64 (k : Int) | 2 => vq = .int .i64 ((2 * k : Nat) : Int) | 3 => vq = .pointer (some ⟨g, 1, none⟩) | 4 => vq = .pointer (some ⟨g, 1 + (2 * k), none⟩) | 5 => vq = .int .u8 (X : Int) | 6 => vq = .int .u64 (X : Int) | 7 => vq = .int .u64 ((X * 256 : Nat) : Int) | 8 => vq = .int .i64 (k : Int) | 9 => vq = .int .i64 ((2 * k : Nat) : Int) | 10 => vq = .int .i64 ((2 * k + 1 : Nat) : Int) | 11 => vq = .pointer (some ⟨g, 1, none⟩) | 12 => vq = .pointer (some ⟨g, 1 + (2 * k + 1), none⟩) | 13 => vq = .int .u8 (Y : Int) | 14 => vq = .int .u64 (Y : Int) | 15 => vq = .int .u64 ((X * 256 + Y : Nat) : Int) | 16 => vq = .string (hexS (X * 256 + Y)) | _ => True)
          [10, 11, 12, 13, 14, 15, 16, 17, 18, 19, 20, 21, 22, 23, 24, 25, 26]
          [(4, .int .i64 (k : Int)), (1, .pointer (some ⟨g, 0, none⟩)), (3, .pointer (some ⟨g3, 0, none⟩))]
          [[], [], [1], [], [3, 2], [4], [5], [6], [], [8], [9], [], [11, 10], [12], [13], [7, 14], [15]]
          (by kernel_rfl) ⟨rfl, rfl, rfl, trivial⟩ (Below.drew (Below.refl _ _)) (fun v v' h hb => h.trans (hb.mono h.size)) ?_
          ⟨
            (fun Q a1 ww hS fr kn => ⟨trivial, fun K hK => wp_value (exec_move rfl fr.1) (hK _ _ rfl (Below.refl _ _))⟩),
            (fun Q a1 ww hS fr kn => ⟨trivial, fun K hK => wp_value (exec_move rfl fr.1) (hK _ _ rfl (Below.refl _ _))⟩),
            (fun Q a1 ww hS fr kn => ⟨trivial, fun K hK => wp_value (exec_mulW (i := 2) (m := k) rfl rfl kn.1 rfl (by omega)) (hK _ _ rfl (Below.refl _ _))⟩),
            (fun Q a1 ww hS fr kn => ⟨trivial, fun K hK => wp_value (exec_fadW1 rfl fr.2.1) (hK _ _ rfl (Below.refl _ _))⟩),
            (fun Q a1 ww hS fr kn => ⟨trivial, fun K hK => wp_value (exec_ixW16 (k := 2 * k) rfl kn.1 kn.2.1 (by omega)) (hK _ _ rfl (Below.refl _ _))⟩),
            (fun Q a1 ww hS fr kn => ⟨trivial, fun K hK => wp_value (exec_ld rfl kn.1 (ldW8 (HCX.out ww hS))) (hK _ _ rfl (Below.refl _ _))⟩),
            (fun Q a1 ww hS fr kn => ⟨trivial, fun K hK => wp_value (exec_cv8U (m := X) rfl kn.1 hX) (hK _ _ rfl (Below.refl _ _))⟩),
            (fun Q a1 ww hS fr kn => ⟨trivial, fun K hK => wp_value (exec_shl8U (i := X) rfl kn.1 rfl rfl (by omega)) (hK _ _ rfl (Below.refl _ _))⟩),
            (fun Q a1 ww hS fr kn => ⟨trivial, fun K hK => wp_value (exec_move rfl fr.1) (hK _ _ rfl (Below.refl _ _))⟩),
            (fun Q a1 ww hS fr kn => ⟨trivial, fun K hK => wp_value (exec_mulW (i := 2) (m := k) rfl rfl kn.1 rfl (by omega)) (hK _ _ rfl (Below.refl _ _))⟩),
            (fun Q a1 ww hS fr kn => ⟨trivial, fun K hK => wp_value (exec_addW (i := 2 * k) (m := 1) rfl kn.1 rfl rfl (by omega)) (hK _ _ rfl (Below.refl _ _))⟩),
            (fun Q a1 ww hS fr kn => ⟨trivial, fun K hK => wp_value (exec_fadW1 rfl fr.2.1) (hK _ _ rfl (Below.refl _ _))⟩),
            (fun Q a1 ww hS fr kn => ⟨trivial, fun K hK => wp_value (exec_ixW16 (k := 2 * k + 1) rfl kn.1 kn.2.1 (by omega)) (hK _ _ rfl (Below.refl _ _))⟩),
            (fun Q a1 ww hS fr kn => ⟨trivial, fun K hK => wp_value (exec_ld rfl kn.1 (ldW8 (HCY.out ww hS))) (hK _ _ rfl (Below.refl _ _))⟩),
            (fun Q a1 ww hS fr kn => ⟨trivial, fun K hK => wp_value (exec_cv8U (m := Y) rfl kn.1 hY) (hK _ _ rfl (Below.refl _ _))⟩),
            (fun Q a1 ww hS fr kn => ⟨trivial, fun K hK => wp_value (exec_orU8 (i := X) (c := Y) rfl kn.1 kn.2.1 hY rfl (by omega)) (hK _ _ rfl (Below.refl _ _))⟩),
            (fun Q a1 ww hS fr kn => ⟨trivial, fun K hK => stepc enterW_FU rfl (args2 kn.1 rfl) (FormatUint_run (X * 256 + Y) ww (by omega) (HEW.out ww hS)) (fun w' hb => hK _ _ rfl hb)⟩),
            trivial⟩ ?_)
      · intro iq vq u' u'' hh hb
        match iq with
        | 0 | 1 | 2 | 3 | 4 | 5 | 6 | 7 | 8 | 9 | 10 | 11 | 12 | 13 | 14 | 15 | 16 => exact hh

        | n + 17 => trivial
      intro vs w7 hS7 hk7
      have e10 : vs 10 = .int .i64 (k : Int) := hk7 0 (by decide)
      have e26 : vs 26 = .string (hexS (X * 256 + Y)) := hk7 16 (by decide)
      have q2 := SAt.kept HR.out.2.1 hS7
      have p2 := SAt.kept HR.out.1 hS7
      have hB2 := hS7
      clear hk7 hS7
      show wpList Tryd.prog _ _ (_ :: _ :: []) _ _
      simp only [putAll, Act.put, List.setIfInBounds_toArray, List.set_cons_zero, List.set_cons_succ, e10, e26]
      clear e10 e26
      go_upto_region 6 with (first | (refine wl_value rfl (exec_idxA (i := k) rfl Tryd.underlying52 lenS8 sizeS8 (by rfl) (by rfl) hk) ?_) | (refine wl_stS rfl rfl q2 (by rfl) (by rfl) hk ?_; intro w3 q4 o3; refine Hid.out ?_))
      refine Hid.mk ?_
      have hB3 : Below w.heap.size w w3 := (HR.out.2.2.2.trans (hB2.mono HR.out.2.2.2.size)).trans (o3.below hg3w)
      have HX : Hid (SAt w3 g 24 17 (adV v b) ∧ SAt w3 g3 52 8 (fun j => Value.string (if j < k + 1 then hexS (pr j) else ByteArray.empty)) ∧ Env w3 ∧ Below w.heap.size w w3) := Hid.mk ⟨p2.only o3 hne, q4.congr (fun j _ => by
        congr 1
        by_cases e : j = k
        · rw [if_pos e, if_pos (by omega), e, HPR.out]
        · rw [if_neg e]
          by_cases e2 : j < k
          · rw [if_pos e2, if_pos (by omega)]
          · rw [if_neg e2, if_neg (by omega)]), hE.kept hB3, hB3⟩
      clear q2 p2 q4 o3 hB2 HR HCX HCY HEW
      go_wp2_with fail
      go_roundg (8 - (k + 1))
      case rel => exact ⟨k + 1, Hid.mk (by omega), by go_num, HX⟩
      case measure => have := HK.out; omega
    · have hk2 : k = 8 := by omega
      subst hk2
      have q8 : SAt wI g3 52 8 (fun j => Value.string (hexS (pr j))) := HR.out.2.1.congr (fun j hj => by rw [if_pos hj])
      have hle := rowC_le (zP pr)
      have HFW := Hid.mk (fun h => rowC_few (pr := pr) h)
      have HMN := Hid.mk (fun h => rowC_many (pr := pr) h)
      have hLR := Hid.mk (longestRow_run pr wI HPL.out)
      obtain ⟨f, hf⟩ : ∃ f, (rowC (zP pr) 8).1 = f := ⟨_, rfl⟩
      obtain ⟨m, hm⟩ : ∃ m, (rowC (zP pr) 8).2.1 = m := ⟨_, rfl⟩
      rw [hf, hm] at hle hLR HMN
      rw [hm] at HFW
      clear hf hm
      go_wp2_with (first | (refine wl_value rfl (look_st rfl isS8 q8 (by rfl)) ?_) | (go_at_call 32; refine hLR.out.mono ?_; rintro e w2 ⟨rfl, hB2⟩; refine Hid.out ?_))
      refine Hid.mk ?_
      have q9 := SAt.kept q8 hB2
      have hBw : Below w.heap.size w w2 := HR.out.2.2.2.trans (hB2.mono HR.out.2.2.2.size)
      have HV : Hid (∀ j, j < 8 → (hexT (pr j)).length ≤ 4) := Hid.mk (fun j _ => (hexT_len (pr j)).2)
      by_cases h2 : m < 2
      · have h2i : (m : Int) < 2 := by omega
        have hJ := Join_run g3 0 8 8 (fun j => hexT (pr j)) 58 w2 (fun j hj => by
          rw [Nat.zero_add, SAt.at q9 j hj]
          rfl) (SAt.lt q9) (Nat.le_refl _) (by omega) HV.out
        have HJ := Hid.mk hJ
        have HE : Hid (joinC 58 ((List.range 8).map fun j => hexT (pr j)) = textSix pr) := Hid.mk (by
          rw [HFW.out h2, prL_range]
          simp)
        rw [HE.out] at HJ
        clear hJ
        go_wp2_with (first | (refine wl_value rfl (exec_sl rfl (by rfl) (sl8s g3 _)) ?_) | (go_at_call 33; refine HJ.out.mono ?_; rintro e w3 ⟨rfl, hB3⟩; refine Hid.out ?_))
        refine Hid.mk ?_
        go_wp2_with fail
        go_ret
        exact ⟨rfl, hBw.trans (hB3.mono hBw.size)⟩
      · have h2i : ¬ (m : Int) < 2 := by omega
        obtain ⟨o2, n2, c2, hsl2, hon, hnc⟩ : ∃ o2 n2 c2, (∀ ww, (Instr.sliceAt 52 (.pointer (some ⟨g3, 0, none⟩)) (some (.int .i64 ((f + m : Nat) : Int))) none none).run Tryd.prog ww = .ok (.slice (some ⟨g3, o2, none⟩) n2 c2) ww) ∧ n2 = 8 - (f + m) ∧ (n2 ≤ c2 ∧ (f + m < 8 → o2 = f + m) ∧ o2 + n2 ≤ 8) := by
          rcases Nat.lt_or_ge (f + m) 8 with h8 | h8
          · exact ⟨f + m, 8 - (f + m), 8 - (f + m), fun ww => slArrL Tryd.underlying52 lenS8 sizeS8 g3 (f + m) ww h8, rfl, Nat.le_refl _, fun _ => rfl, by omega⟩
          · have e : f + m = 8 := by omega
            exact ⟨0, 0, 0, fun ww => by rw [e]; exact sl8e g3 ww, by omega, Nat.le_refl _, fun h => by omega, by omega⟩
        have HSL := Hid.mk hsl2
        have HE : Hid (joinC 58 ((List.range f).map fun j => hexT (pr j)) ++ 58 :: 58 :: joinC 58 ((List.range n2).map fun j => hexT (pr (o2 + j))) = textSix pr) := Hid.mk (by
          rw [HMN.out h2, prL_range, prL_range, ← hon]
          rcases Nat.lt_or_ge (f + m) 8 with h8 | h8
          · rw [hnc.2.1 h8]; simp
          · have : n2 = 0 := by omega
            rw [this]; simp)
        have HJ1 : Hid (∀ ww, Below w2.heap.size w2 ww → Calls Tryd.prog 33 #[.slice (some ⟨g3, 0, none⟩) f 8, .string ⟨#[58]⟩] ww fun e w' => e = .returned (.string ⟨(joinC 58 ((List.range f).map fun j => hexT (pr j))).toArray⟩) ∧ Below ww.heap.size ww w') := Hid.mk (fun ww hh => by
          have qq := SAt.kept q9 hh
          exact Join_run g3 0 f 8 (fun j => hexT (pr j)) 58 ww (fun j hj => by
            rw [Nat.zero_add, SAt.at qq j (by omega)]
            rfl) (SAt.lt qq) (by omega) (by omega) (fun j hj => HV.out j (by omega)))
        have HJ2 : Hid (∀ ww, Below w2.heap.size w2 ww → Calls Tryd.prog 33 #[.slice (some ⟨g3, o2, none⟩) n2 c2, .string ⟨#[58]⟩] ww fun e w' => e = .returned (.string ⟨(joinC 58 ((List.range n2).map fun j => hexT (pr (o2 + j)))).toArray⟩) ∧ Below ww.heap.size ww w') := Hid.mk (fun ww hh => by
          have qq := SAt.kept q9 hh
          exact Join_run g3 o2 n2 c2 (fun j => hexT (pr (o2 + j))) 58 ww (fun j hj => by
            rw [SAt.at qq (o2 + j) (by omega)]
            rfl) (SAt.lt qq) hnc.1 (by omega) (fun j hj => HV.out (o2 + j) (by omega)))
        have hf8 : f ≤ 8 := by omega
        have HC : Hid ((joinC 58 ((List.range f).map fun j => hexT (pr j))).length ≤ 40 ∧ (joinC 58 ((List.range n2).map fun j => hexT (pr (o2 + j)))).length ≤ 40) := Hid.mk ⟨by
          have := joinC_len 58 ((List.range f).map fun j => hexT (pr j)) (fun p hp => by
            obtain ⟨j, hj, rfl⟩ := List.mem_map.1 hp
            exact (hexT_len _).2)
          rw [List.length_map, List.length_range] at this
          omega, by
          have := joinC_len 58 ((List.range n2).map fun j => hexT (pr (o2 + j))) (fun p hp => by
            obtain ⟨j, hj, rfl⟩ := List.mem_map.1 hp
            exact (hexT_len _).2)
          rw [List.length_map, List.length_range] at this
          omega⟩
        have HC1 : Hid ((⟨(joinC 58 ((List.range f).map fun j => hexT (pr j))).toArray⟩ : ByteArray).size + ddS.size ≤ 9223372036854775807) := Hid.mk (by
          have h1 : (⟨(joinC 58 ((List.range f).map fun j => hexT (pr j))).toArray⟩ : ByteArray).size = (joinC 58 ((List.range f).map fun j => hexT (pr j))).length := rfl
          have h2 : ddS.size = 2 := rfl
          rw [h1, h2]
          have := HC.out.1
          omega)
        have HC2 : Hid ((⟨(joinC 58 ((List.range f).map fun j => hexT (pr j))).toArray⟩ ++ ddS : ByteArray).size + (⟨(joinC 58 ((List.range n2).map fun j => hexT (pr (o2 + j)))).toArray⟩ : ByteArray).size ≤ 9223372036854775807) := Hid.mk (by
          have h1 : (⟨(joinC 58 ((List.range f).map fun j => hexT (pr j))).toArray⟩ : ByteArray).size = (joinC 58 ((List.range f).map fun j => hexT (pr j))).length := rfl
          have h2 : ddS.size = 2 := rfl
          have h3 : (⟨(joinC 58 ((List.range n2).map fun j => hexT (pr (o2 + j)))).toArray⟩ : ByteArray).size = (joinC 58 ((List.range n2).map fun j => hexT (pr (o2 + j)))).length := rfl
          rw [ByteArray.size_append, h1, h2, h3]
          have := HC.out
          omega)
        clear hsl2 hon hnc q8 q9 HMN HFW HV hLR
        obtain ⟨wJ, hwJ⟩ : ∃ x, x = w2 := ⟨_, rfl⟩
        rw [← hwJ] at HJ1 HJ2 hBw ⊢
        clear hwJ hB2
        go_upto_region 10 with fail
        refine wp_region3 (Below wJ.heap.size wJ) wJ.heap.size
            ([] : List (Nat × Cont))
            [kv (.int .i64 (f : Int)), kv (.slice (some ⟨g3, 0, none⟩) f 8), kv (.string ⟨(joinC 58 ((List.range f).map fun j => hexT (pr j))).toArray⟩), kv (.string (⟨(joinC 58 ((List.range f).map fun j => hexT (pr j))).toArray⟩ ++ ddS)), kv (.int .i64 (f : Int)), kv (.int .i64 (m : Int)), kv (.int .i64 ((f + m : Nat) : Int)), kv (.slice (some ⟨g3, o2, none⟩) n2 c2), kv (.string ⟨(joinC 58 ((List.range n2).map fun j => hexT (pr (o2 + j)))).toArray⟩), kv (.string ((⟨(joinC 58 ((List.range f).map fun j => hexT (pr j))).toArray⟩ ++ ddS) ++ ⟨(joinC 58 ((List.range n2).map fun j => hexT (pr (o2 + j)))).toArray⟩)), kv (.string ((⟨(joinC 58 ((List.range f).map fun j => hexT (pr j))).toArray⟩ ++ ddS) ++ ⟨(joinC 58 ((List.range n2).map fun j => hexT (pr (o2 + j)))).toArray⟩))]
            [.none, .none, .none, .none, .none, .none, .none, .none, .none, .none, .none]
            [some 38, some 39, some 40, some 41, some 42, some 43, some 44, some 45, some 46, some 47, some 2]
            [(5, .int .i64 (f : Int)), (6, .int .i64 (m : Int)), (3, .pointer (some ⟨g3, 0, none⟩))]
            [[], [.slot 0], [.slot 1], [.slot 2], [], [], [.slot 4, .slot 5], [.slot 6], [.slot 7], [.slot 3, .slot 8], [.slot 9]]
            [.slot 10] [38, 39, 40, 41, 42, 43, 44, 45, 46, 47, 2]
            rfl (by kernel_rfl) ⟨rfl, rfl, rfl, trivial⟩ ((Below.refl _ wJ).drew) (Nat.le_refl _) trivial trivial (below_GcW (Nat.le_refl _))
            ⟨
              (fun Q aq ww own hS hBg fr kn => .inl ⟨trivial, fun K hK => wp_value (exec_move rfl fr.1) (hK _ _ ⟨Touch.refl _ _, rfl⟩)⟩),
              (fun Q aq ww own hS hBg fr kn => .inl ⟨trivial, fun K hK => wp_value (exec_slH rfl fr.2.2.1 kn.1 (sl8h g3 ww f (by omega))) (hK _ _ ⟨Touch.refl _ _, rfl⟩)⟩),
              (fun Q aq ww own hS hBg fr kn => .inl ⟨trivial, fun K hK => stepc enterW_Jo rfl (args2 kn.1 rfl) (HJ1.out ww hS) (fun w' hb => hK _ _ ⟨touch_below hb, rfl⟩)⟩),
              (fun Q aq ww own hS hBg fr kn => .inl ⟨trivial, fun K hK => wp_value (exec_catS (t := ddS) rfl kn.1 rfl HC1.out) (hK _ _ ⟨Touch.refl _ _, rfl⟩)⟩),
              (fun Q aq ww own hS hBg fr kn => .inl ⟨trivial, fun K hK => wp_value (exec_move rfl fr.1) (hK _ _ ⟨Touch.refl _ _, rfl⟩)⟩),
              (fun Q aq ww own hS hBg fr kn => .inl ⟨trivial, fun K hK => wp_value (exec_move rfl fr.2.1) (hK _ _ ⟨Touch.refl _ _, rfl⟩)⟩),
              (fun Q aq ww own hS hBg fr kn => .inl ⟨trivial, fun K hK => wp_value (exec_addW (i := f) (m := m) rfl kn.1 kn.2.1 rfl (by omega)) (hK _ _ ⟨Touch.refl _ _, rfl⟩)⟩),
              (fun Q aq ww own hS hBg fr kn => .inl ⟨trivial, fun K hK => wp_value (exec_slL rfl fr.2.2.1 kn.1 (HSL.out ww)) (hK _ _ ⟨Touch.refl _ _, rfl⟩)⟩),
              (fun Q aq ww own hS hBg fr kn => .inl ⟨trivial, fun K hK => stepc enterW_Jo rfl (args2 kn.1 rfl) (HJ2.out ww hS) (fun w' hb => hK _ _ ⟨touch_below hb, rfl⟩)⟩),
              (fun Q aq ww own hS hBg fr kn => .inl ⟨trivial, fun K hK => wp_value (exec_catS rfl kn.1 kn.2.1 HC2.out) (hK _ _ ⟨Touch.refl _ _, rfl⟩)⟩),
              (fun Q aq ww own hS hBg fr kn => .inl ⟨trivial, fun K hK => wp_value (exec_assign rfl kn.1) (hK _ _ ⟨Touch.refl _ _, rfl⟩)⟩),
              trivial⟩ ?_
        intro vs own u6 hB6 hsz6 kn inj
        have e2 : vs 2 = .string ((⟨(joinC 58 ((List.range f).map fun j => hexT (pr j))).toArray⟩ ++ ddS) ++ ⟨(joinC 58 ((List.range n2).map fun j => hexT (pr (o2 + j)))).toArray⟩) := kn.1
        have e3 : ((⟨(joinC 58 ((List.range f).map fun j => hexT (pr j))).toArray⟩ ++ ddS) ++ ⟨(joinC 58 ((List.range n2).map fun j => hexT (pr (o2 + j)))).toArray⟩ : ByteArray) = sixS pr := by
          apply lsT_inj
          rw [lsT_app, lsT_app]
          show ((joinC 58 ((List.range f).map fun j => hexT (pr j)) ++ [58, 58]) ++ joinC 58 ((List.range n2).map fun j => hexT (pr (o2 + j))) : List UInt8) = textSix pr
          rw [← HE.out, List.append_assoc]
          rfl
        rw [e3] at e2
        clear kn inj hsz6 e3
        simp only [putAll, Act.put, List.setIfInBounds_toArray, List.set_cons_zero, List.set_cons_succ, e2]
        clear e2
        go_wp2_with fail
        go_ret
        exact ⟨rfl, hBw.trans (hB6.mono hBw.size)⟩
def textV (v : Bool) (b : Nat → Int) : ByteArray := if v = true then sixS (prF b) else fourS b
theorem Text_no (v : Bool) (b : Nat → Int) (w : World) (hv : validF v b = false) : Calls Tryd.prog 5 #[.agg (SC 17 (adV v b))] w fun e w' => e = .returned (.tuple #[.string ByteArray.empty, .int .i64 1]) ∧ Below w.heap.size w w' := by
  have HR := Hid.mk hv
  clear hv
  go_enter Tryd.func5, Tryd.ntmps5
  go_wp2_with (refine wl_boxO rfl rfl isAddr (by rfl) ?_; intro g u1 hg g1 hB1; refine Hid.out ?_)
  refine Hid.mk ?_
  go_wp2_with (first | (refine wl_value rfl (look_st rfl isAddr g1 (by rfl)) ?_) | (go_at_call 7; refine (Valid_run v b _).mono ?_; rintro e w2 ⟨rfl, hB2⟩; simp only [HR.out]; refine Hid.out ?_))
  refine Hid.mk ?_
  go_wp2_with fail
  exact bodyPost_ret (results_two rfl (by rfl) (by rfl)) rfl ⟨rfl, hB1.trans (hB2.mono hB1.size)⟩
set_option maxHeartbeats 4000000 in
theorem Text_run (v : Bool) (b : Nat → Int) (w : World) (hb : Byts 16 b) (hE : Env w) (hv : validF v b = true) : Calls Tryd.prog 5 #[.agg (SC 17 (adV v b))] w fun e w' => e = .returned (.tuple #[.string (textV v b), .int .i64 0]) ∧ Below w.heap.size w w' := by
  have HR := Hid.mk hv
  clear hv
  go_enter Tryd.func5, Tryd.ntmps5
  go_wp2_with (refine wl_boxO rfl rfl isAddr (by rfl) ?_; intro g u1 hg g1 hB1; refine Hid.out ?_)
  refine Hid.mk ?_
  go_wp2_with (first | (refine wl_value rfl (look_st rfl isAddr g1 (by rfl)) ?_) | (go_at_call 7; refine (Valid_run v b _).mono ?_; rintro e w2 ⟨rfl, hB2⟩; simp only [HR.out]; refine Hid.out ?_))
  refine Hid.mk ?_
  have g2 := SAt.kept g1 hB2
  have c0 := ad_v g2
  have hB3 := hB1.trans (hB2.mono hB1.size)
  have HE := Hid.mk (hE.kept hB3)
  cases v
  · go_wp2_with (first | (refine wl_value rfl (exec_fadW0 rfl (by rfl)) ?_) | (refine wl_value rfl (look_st rfl isAddr g2 (by rfl)) ?_) | (go_at_call 22; refine (text4_run false b _ hb HE.out).mono ?_; rintro e w4 ⟨rfl, hB4⟩; refine Hid.out ?_))
    refine Hid.mk ?_
    go_wp2_with fail
    exact bodyPost_ret (results_two rfl (by rfl) (by rfl)) rfl ⟨rfl, hB3.trans (hB4.mono hB3.size)⟩
  · go_wp2_with (first | (refine wl_value rfl (exec_fadW0 rfl (by rfl)) ?_) | (refine wl_value rfl (look_st rfl isAddr g2 (by rfl)) ?_) | (go_at_call 21; refine (text6_run true b _ hb HE.out).mono ?_; rintro e w4 ⟨rfl, hB4⟩; refine Hid.out ?_))
    refine Hid.mk ?_
    go_wp2_with fail
    exact bodyPost_ret (results_two rfl (by rfl) (by rfl)) rfl ⟨rfl, hB3.trans (hB4.mono hB3.size)⟩
end Go.Proofs.YtdlepeogmjmleaaDoor
/-
  Own text. strconv.ParseUint of base 16 and 16 bits, of base 10 and 8 bits: a number, or an error.
-/
namespace Go.Proofs.YtdlepeogmjmleaaDoor
open Go.RowKit Go.Proofs
set_option maxRecDepth 100000
def lowF (c : UInt8) : Int := bits .or .u8 (c.toNat : Int) 32
def lowGood (n : Nat) : Bool := match hexV (UInt8.ofNat n) with
  | some d => decide (48 ≤ n ∧ n ≤ 57 ∧ d = n - 48) || (!(decide (48 ≤ n ∧ n ≤ 57)) && decide (97 ≤ bits .or .u8 (n : Int) 32 ∧ bits .or .u8 (n : Int) 32 ≤ 102 ∧ bits .or .u8 (n : Int) 32 - 97 + 10 = (d : Int)))
  | none => !(decide (48 ≤ n ∧ n ≤ 57)) && (decide (bits .or .u8 (n : Int) 32 < 97) || decide (102 < bits .or .u8 (n : Int) 32))
theorem low_tab : ((List.range 256).all lowGood) = true := by decide +kernel
theorem low_all (c : UInt8) : lowGood c.toNat = true := List.all_eq_true.1 low_tab c.toNat (List.mem_range.2 c.toNat_lt)
theorem low_some {c : UInt8} {d : Nat} (h : hexV c = some d) : (48 ≤ c.toNat ∧ c.toNat ≤ 57 ∧ d = c.toNat - 48) ∨ ((c.toNat < 48 ∨ 57 < c.toNat) ∧ 97 ≤ lowF c ∧ lowF c ≤ 102 ∧ lowF c - 97 + 10 = (d : Int)) := by
  have g := low_all c
  unfold lowGood at g
  rw [UInt8.ofNat_toNat, h] at g
  simp only [Bool.or_eq_true, Bool.and_eq_true, decide_eq_true_eq, Bool.not_eq_true', decide_eq_false_iff_not] at g
  rcases g with g | g
  · exact .inl g
  · exact .inr ⟨by omega, g.2⟩
theorem low_none {c : UInt8} (h : hexV c = none) : (c.toNat < 48 ∨ 57 < c.toNat) ∧ (lowF c < 97 ∨ 102 < lowF c) := by
  have g := low_all c
  unfold lowGood at g
  rw [UInt8.ofNat_toNat, h] at g
  simp only [Bool.or_eq_true, Bool.and_eq_true, decide_eq_true_eq, Bool.not_eq_true', decide_eq_false_iff_not] at g
  exact ⟨by omega, g.2⟩
theorem lower_run (c : Int) (w : World) : Calls Tryd.prog 67 #[.int .u8 c] w fun e w' => e = .returned (.int .u8 (bits .or .u8 c 32)) ∧ w' = w := AnyPu.internal_strconv_lower { sh_laysPu14 with } c w
set_option maxHeartbeats 32000000 in
theorem iParse16_run (t : ByteArray) (w : World) (hne : t.size ≠ 0) (hmax : t.size ≤ 9223372036854775806) : Calls Tryd.prog 51 #[.string t, .int .i64 16, .int .i64 16] w fun e w' => e = .returned (Lib.uintTupleM 93 65535 (hexM 0 (lsT t))) ∧ w' = Lib.bytesWorld w 5 t := by
  have hemp : t.toList.isEmpty = false := by
    rw [← decide_eq_emptyBytes]
    exact decide_eq_false (fun h => hne (by rw [h]; rfl))
  have hcv := Lib.run_convert_string_bytes (P := Tryd.prog) w 9 44 5 t (u := .string) Tryd.underlying9 Tryd.underlying44 Tryd.underlying5
  have hB : ∀ j, j < t.size → (Lib.bytesWorld w 5 t).cell? ⟨w.heap.size, j, none⟩ = some (.int .u8 (t.data.toList.getD j 0).toNat) := fun j hj => Lib.bytesWorld_cell w 5 t j hj
  obtain ⟨W1, hW1⟩ : ∃ W1, W1 = Lib.bytesWorld w 5 t := ⟨_, rfl⟩
  rw [← hW1] at hcv hB ⊢
  clear hW1
  obtain ⟨bs, hL⟩ : ∃ bs, bs = t.data.toList := ⟨_, rfl⟩
  have hLn : bs.length = t.size := by rw [hL, Lib.size_eq]
  have hL2 : lsT t = bs := by rw [hL]; rfl
  rw [← hL] at hB
  rw [hL2]
  clear hL hL2
  have hmv : IntKind.u64.wrap (IntKind.u64.wrap 65536 - 1) = 65535 := by
    rw [IntKind.wrap_u64, IntKind.wrap_u64]
    decide
  go_enter Tryd.func51, Tryd.ntmps51
  go_wp2
  go_loop [12, 13, 101] (fun vu vn vi => ∃ (k acc : Nat) (a : Int), vu = .bool false ∧ vn = .int .u64 a ∧ vi = .int .i64 k ∧ k ≤ t.size ∧ Hid (a = (acc : Int) ∧ acc ≤ 65535 ∧ hexM 0 bs = hexM acc (bs.drop k)))
    (fun _ _ vi => t.size - (intOf vi).toNat)
  case atStart => exact ⟨0, 0, 0, rfl, rfl, rfl, by omega, Hid.mk ⟨rfl, by omega, rfl⟩⟩
  case round =>
    obtain ⟨k, acc, a, rfl, rfl, rfl, hk, hh⟩ := hrel
    obtain ⟨ha, hacc, hdec⟩ := hh.out
    clear hh
    have a0 : 0 ≤ a := by omega
    have a1 : a ≤ 65535 := by omega
    by_cases hkn : k < t.size
    · have hc := hB k hkn
      have hdrop : bs.drop k = bs[k]'(by omega) :: bs.drop (k + 1) := List.drop_eq_getElem_cons (by omega)
      have hget : bs.getD k 0 = bs[k]'(by omega) := by simp [List.getD, List.getElem?_eq_getElem (show k < bs.length by omega)]
      rw [hdrop] at hdec
      rw [hget] at hc
      generalize bs[k]'(by omega) = c at hc hdec
      have hc256 : c.toNat < 256 := c.toNat_lt
      clear hB hdrop hget
      cases hv : hexV c with
      | some d =>
        have hd16 := hex_lt hv
        have hls := low_some hv
        have h95 : ¬ (c.toNat : Int) = 95 := fun e => by
          have e2 : c.toNat = 95 := by omega
          have : hexV c = none := by unfold hexV; rw [e2]; rfl
          rw [this] at hv
          cases hv
        have hb95 : ((c.toNat : Int) == 95) = false := beq_eq_false_iff_ne.2 h95
        by_cases hov : 65535 < acc * 16 + d
        · have hF : hexM acc (c :: bs.drop (k + 1)) = .range := by rw [hexM, hv]; show (if 65535 < acc * 16 + d then _ else _) = _; rw [if_pos hov]
          rw [hF] at hdec
          have iov : 65535 < a * 16 + (d : Int) := by omega
          clear hacc hF hov ha
          rcases hls with ⟨q1, q2, q3⟩ | ⟨q1, q2, q3, q4⟩
          · have iov2 : 65535 < a * 16 + ((c.toNat : Int) - 48) := by omega
            go_wp2
            go_ret2
            first | exact ⟨rfl, rfl⟩ | exact ⟨by rw [hdec]; rfl, rfl⟩
          · unfold lowF at q2 q3 q4
            have iov2 : 65535 < a * 16 + (bits .or .u8 (c.toNat : Int) 32 - 97 + 10) := by omega
            rcases q1 with q1 | q1
            · go_wp2_with (go_at_call 67; refine (lower_run _ _).mono ?_; rintro e w' ⟨rfl, rfl⟩)
              all_goals go_ret2
              all_goals first | exact ⟨rfl, rfl⟩ | exact ⟨by rw [hdec]; rfl, rfl⟩
            · go_wp2_with (go_at_call 67; refine (lower_run _ _).mono ?_; rintro e w' ⟨rfl, rfl⟩)
              all_goals go_ret2
              all_goals first | exact ⟨rfl, rfl⟩ | exact ⟨by rw [hdec]; rfl, rfl⟩
        · have hF : hexM acc (c :: bs.drop (k + 1)) = hexM (acc * 16 + d) (bs.drop (k + 1)) := by rw [hexM, hv]; show (if 65535 < acc * 16 + d then _ else _) = _; rw [if_neg hov]
          have HN : Hid (a * 16 + (d : Int) = ((acc * 16 + d : Nat) : Int) ∧ acc * 16 + d ≤ 65535 ∧ hexM 0 bs = hexM (acc * 16 + d) (bs.drop (k + 1))) := Hid.mk ⟨by omega, by omega, hdec.trans hF⟩
          have iov : a * 16 + (d : Int) ≤ 65535 := by omega
          clear hacc hF hov hdec ha
          rcases hls with ⟨q1, q2, q3⟩ | ⟨q1, q2, q3, q4⟩
          · have iov2 : a * 16 + ((c.toNat : Int) - 48) ≤ 65535 := by omega
            have eq : a * 16 + ((c.toNat : Int) - 48) = a * 16 + (d : Int) := by omega
            go_wp2
            refine ⟨⟨k + 1, acc * 16 + d, a * 16 + (d : Int), rfl, (by first | rfl | (congr 1; omega)), (by first | rfl | (congr 1; omega)), by omega, HN⟩, by simp [intOf]; omega⟩
          · unfold lowF at q2 q3 q4
            have iov2 : a * 16 + (bits .or .u8 (c.toNat : Int) 32 - 97 + 10) ≤ 65535 := by omega
            rcases q1 with q1 | q1
            · go_wp2_with (go_at_call 67; refine (lower_run _ _).mono ?_; rintro e w' ⟨rfl, rfl⟩)
              all_goals refine ⟨⟨k + 1, acc * 16 + d, a * 16 + (d : Int), rfl, (by first | rfl | (congr 1; omega)), (by first | rfl | (congr 1; omega)), by omega, HN⟩, by simp [intOf]; omega⟩
            · go_wp2_with (go_at_call 67; refine (lower_run _ _).mono ?_; rintro e w' ⟨rfl, rfl⟩)
              all_goals refine ⟨⟨k + 1, acc * 16 + d, a * 16 + (d : Int), rfl, (by first | rfl | (congr 1; omega)), (by first | rfl | (congr 1; omega)), by omega, HN⟩, by simp [intOf]; omega⟩
      | none =>
        have hF : hexM acc (c :: bs.drop (k + 1)) = .syntax := by rw [hexM, hv]
        rw [hF] at hdec
        clear hacc hF ha
        have hln := low_none hv
        unfold lowF at hln
        have hv0 := bits_lo_u8 .or (c.toNat : Int) 32
        have hv1 := bits_hi_u8 .or (c.toNat : Int) 32
        have hu0 := bits_lo_u8 .or 95 32
        have hu1 := bits_hi_u8 .or 95 32
        go_wp2_with (go_at_call 67; refine (lower_run _ _).mono ?_; rintro e w' ⟨rfl, rfl⟩)
        all_goals go_ret2
        all_goals first | exact ⟨by rw [hdec]; rfl, rfl⟩ | exact ⟨rfl, rfl⟩
    · have hkk : k = t.size := by omega
      subst hkk
      have hF : hexM acc (bs.drop t.size) = .ok acc := by rw [List.drop_eq_nil_of_le (by omega)]; rfl
      rw [hF] at hdec
      subst ha
      clear hacc hF a0 a1
      go_wp2
      go_ret2
      first | exact ⟨rfl, rfl⟩ | exact ⟨by rw [hdec]; rfl, rfl⟩
end Go.Proofs.YtdlepeogmjmleaaDoor
/-
  Own text. The library's functions in the words of this layer: ParseUint, SplitN, Cut, Repeat.
-/
namespace Go.Proofs.YtdlepeogmjmleaaDoor
open Go.RowKit Go.Proofs
set_option maxRecDepth 100000
/-- A number, or an error that is not nil. -/
def NumQ (R : Lib.NumEnd Nat) (e : Ending) : Prop := (∃ n : Nat, R = .ok n ∧ e = .returned (.tuple #[.int .u64 (n : Int), .nilIface])) ∨ ((∀ n, R ≠ .ok n) ∧ ∃ u t p, e = .returned (.tuple #[.int .u64 u, .iface t p]))
theorem bytes_or {w w' : World} {s : ByteArray} (h : w' = w ∨ w' = Lib.bytesWorld w 5 s) : Below w.heap.size w w' := by
  rcases h with rfl | rfl
  · exact Below.refl _ _
  · exact Lib.bytesWorld_below _ _ _
theorem Parse10_run (s : ByteArray) (w : World) (hs : s.size ≤ 281474976710656) (hE : Env w) : Calls Tryd.prog 37 #[.string s, .int .i64 10, .int .i64 8] w fun e w' => NumQ (Lib.parseUintB 8 (lsT s)) e ∧ Below w.heap.size w w' := by
  obtain ⟨_, _, ⟨t1, p1, h1⟩, ⟨t2, p2, h2⟩, _⟩ := hE
  have hR : Lib.parseUintB 8 (lsT s) = Lib.parseUintB 8 s.data.toList := rfl
  rw [hR]
  cases h : Lib.parseUintB 8 s.data.toList with
  | ok n =>
    refine (sh_strconv_ParseUint_10_at8_ok s (by omega) n h w).mono ?_
    rintro e w' ⟨rfl, hw⟩
    exact ⟨.inl ⟨n, rfl, rfl⟩, bytes_or hw⟩
  | «syntax» =>
    refine (sh_strconv_ParseUint_10_at8_syntax s hs h _ w h1 (.inr ⟨t1, p1, rfl⟩)).mono ?_
    rintro e w' ⟨N, rfl, _, _, hb⟩
    exact ⟨.inr ⟨fun n hn => (by cases hn), _, _, _, rfl⟩, hb⟩
  | range =>
    refine (sh_strconv_ParseUint_10_at8_range s hs h _ w h2 (.inr ⟨t2, p2, rfl⟩)).mono ?_
    rintro e w' ⟨N, rfl, _, _, hb⟩
    exact ⟨.inr ⟨fun n hn => (by cases hn), _, _, _, rfl⟩, hb⟩
theorem iParse16_any (s : ByteArray) (w : World) (hs : s.size ≤ 9223372036854775806) : Calls Tryd.prog 51 #[.string s, .int .i64 16, .int .i64 16] w fun e w' => e = .returned (Lib.uintTupleM 93 65535 (hexB (lsT s))) ∧ Below w.heap.size w w' := by
  by_cases h : s.size = 0
  · have e0 : s = ⟨#[]⟩ := by
      apply lsT_inj
      exact List.eq_nil_of_length_eq_zero (by rw [lsT_len]; exact h)
    subst e0
    refine (AnyPu.internal_strconv_ParseUint_empty { sh_laysPu14 with } 16 16 w).mono ?_
    rintro e w' ⟨rfl, rfl⟩
    exact ⟨rfl, Below.refl _ _⟩
  · refine (iParse16_run s w h hs).mono ?_
    rintro e w' ⟨rfl, rfl⟩
    refine ⟨?_, Lib.bytesWorld_below _ _ _⟩
    unfold hexB
    rw [if_neg (fun e => h (by rw [← lsT_len, e]; rfl))]
def puS : ByteArray := ⟨#[80, 97, 114, 115, 101, 85, 105, 110, 116]⟩
theorem toErr_syntax (s : ByteArray) (w : World) (hs : s.size ≤ 281474976710656) (hE : Env w) : Calls Tryd.prog 52 #[.string puS, .string s, .int .i64 16, .int .i64 16, .iface 93 (.int .i64 2)] w fun e w' => (∃ t p, e = .returned (.iface t p)) ∧ Below w.heap.size w w' := by
  obtain ⟨_, _, ⟨t1, p1, h1⟩, _, _⟩ := hE
  refine (AnyPu.strconv_toError_syntax { sh_laysPu14 with } puS s 16 16 _ w hs h1 (.inr ⟨t1, p1, rfl⟩)).mono ?_
  rintro e w' ⟨N, rfl, _, _, hb⟩
  exact ⟨⟨_, _, rfl⟩, hb⟩
theorem toErr_range (s : ByteArray) (w : World) (hs : s.size ≤ 281474976710656) (hE : Env w) : Calls Tryd.prog 52 #[.string puS, .string s, .int .i64 16, .int .i64 16, .iface 93 (.int .i64 1)] w fun e w' => (∃ t p, e = .returned (.iface t p)) ∧ Below w.heap.size w w' := by
  obtain ⟨_, _, _, ⟨t1, p1, h1⟩, _⟩ := hE
  refine (AnyPu.strconv_toError_range { sh_laysPu14 with } puS s 16 16 _ w hs h1 (.inr ⟨t1, p1, rfl⟩)).mono ?_
  rintro e w' ⟨N, rfl, _, _, hb⟩
  exact ⟨⟨_, _, rfl⟩, hb⟩
set_option maxHeartbeats 4000000 in
theorem Parse16_run (s : ByteArray) (w : World) (hs : s.size ≤ 281474976710656) (hE : Env w) : Calls Tryd.prog 37 #[.string s, .int .i64 16, .int .i64 16] w fun e w' => NumQ (hexB (lsT s)) e ∧ Below w.heap.size w w' := by
  have HI := Hid.mk (iParse16_any s w (by omega))
  go_enter Tryd.func37, Tryd.ntmps37
  cases h : hexB (lsT s) with
  | ok n =>
    rw [h] at HI
    have HI2 : Hid (Calls Tryd.prog 51 #[.string s, .int .i64 16, .int .i64 16] w fun e w' => e = .returned (.tuple #[.int .u64 (n : Int), .nilIface]) ∧ Below w.heap.size w w') := HI
    clear HI
    go_wp2_with (go_at_call 51; refine HI2.out.mono ?_; rintro e w1 ⟨rfl, hB1⟩; refine Hid.out ?_)
    refine Hid.mk ?_
    go_wp2
    exact bodyPost_ret (results_two rfl (by rfl) (by rfl)) rfl ⟨.inl ⟨n, rfl, rfl⟩, hB1⟩
  | «syntax» =>
    rw [h] at HI
    have HI2 : Hid (Calls Tryd.prog 51 #[.string s, .int .i64 16, .int .i64 16] w fun e w' => e = .returned (.tuple #[.int .u64 0, .iface 93 (.int .i64 2)]) ∧ Below w.heap.size w w') := HI
    clear HI
    go_wp2_with (go_at_call 51; refine HI2.out.mono ?_; rintro e w1 ⟨rfl, hB1⟩; refine Hid.out ?_)
    refine Hid.mk ?_
    have HT := Hid.mk (toErr_syntax s w1 hs (hE.kept hB1))
    go_wp2_with (go_at_call 52; refine HT.out.mono ?_; rintro e w2 ⟨⟨tt, pp, rfl⟩, hB2⟩; refine Hid.out ?_)
    refine Hid.mk ?_
    go_wp2
    exact bodyPost_ret (results_two rfl (by rfl) (by rfl)) rfl ⟨.inr ⟨fun n hn => (by cases hn), _, _, _, rfl⟩, hB1.trans (hB2.mono hB1.size)⟩
  | range =>
    rw [h] at HI
    have HI2 : Hid (Calls Tryd.prog 51 #[.string s, .int .i64 16, .int .i64 16] w fun e w' => e = .returned (.tuple #[.int .u64 65535, .iface 93 (.int .i64 1)]) ∧ Below w.heap.size w w') := HI
    clear HI
    go_wp2_with (go_at_call 51; refine HI2.out.mono ?_; rintro e w1 ⟨rfl, hB1⟩; refine Hid.out ?_)
    refine Hid.mk ?_
    have HT := Hid.mk (toErr_range s w1 hs (hE.kept hB1))
    go_wp2_with (go_at_call 52; refine HT.out.mono ?_; rintro e w2 ⟨⟨tt, pp, rfl⟩, hB2⟩; refine Hid.out ?_)
    refine Hid.mk ?_
    go_wp2
    exact bodyPost_ret (results_two rfl (by rfl) (by rfl)) rfl ⟨.inr ⟨fun n hn => (by cases hn), _, _, _, rfl⟩, hB1.trans (hB2.mono hB1.size)⟩
/-- A row of texts that lies at a place. -/
def RowS (w : World) (g : Nat) (ps : List ByteArray) : Prop := ∀ (j : Nat) (x : ByteArray), ps[j]? = some x → w.cell? ⟨g, j, none⟩ = some (.string x)
theorem RowS.kept {w w' : World} {g : Nat} {ps : List ByteArray} (h : RowS w g ps) (hb : Below w.heap.size w w') : RowS w' g ps := fun j x hj => by
  have hc := h j x hj
  exact (hb.cell (World.block_lt_of_cell? _ _ hc)).trans hc
theorem SplitN_run (s : ByteArray) (c : UInt8) (n : Nat) (w : World) (hs : s.size < 4294967281) (hn : 1 ≤ n) (hn9 : n ≤ 9) (hE : Env w) : Calls Tryd.prog 36 #[.string s, .string ⟨#[c]⟩, .int .i64 (n : Int)] w fun e w' => ∃ g cp ps, e = .returned (.slice (some ⟨g, 0, none⟩) ps.length cp) ∧ ps.map lsT = Lib.splitK [c] 0 (min n (s.size + 1) - 1) (lsT s) ∧ RowS w' g ps ∧ w.heap.size ≤ g ∧ Below w.heap.size w w' := by
  obtain ⟨_, ⟨m, hm⟩, _⟩ := hE
  refine (sh_strings_SplitN s ⟨#[c]⟩ n m w hs hm (Nat.le_refl 1) hn (by omega)).mono ?_
  rintro e w' ⟨rfl, rfl⟩
  refine ⟨w.heap.size, _, _, rfl, Lib.splitB_data ⟨#[c]⟩ 0 _ s, ?_, Nat.le_refl _, (Below.refl _ w).alloc (Nat.le_refl _) _⟩
  intro j x hj
  have h1 := heap_alloc_new w (.cells (Lib.cellsOf (Lib.splitB ⟨#[c]⟩ 0 (min n (s.size + 1) - 1) s) (min n (s.size + 1))) 9)
  rw [World.cell?, h1]
  have hl := (List.getElem?_eq_some_iff.1 hj).1
  have h2 : (Lib.cellsOf (Lib.splitB ⟨#[c]⟩ 0 (min n (s.size + 1) - 1) s) (min n (s.size + 1)))[j]? = some (.string x) := by
    unfold Lib.cellsOf
    rw [List.getElem?_toArray, List.getElem?_append_left (by rw [List.length_map]; exact hl), List.getElem?_map, hj]
    rfl
  simpa using h2
theorem Cut_run (s : ByteArray) (w : World) (hs : s.size < 4294967281) (hE : Env w) : Calls Tryd.prog 38 #[.string s, .string ddS] w fun e w' => (∃ h t b, e = .returned (.tuple #[.string h, .string t, .bool b]) ∧ ((cutDD (lsT s) = none ∧ b = false ∧ h = s ∧ t = ByteArray.empty) ∨ (cutDD (lsT s) = some (lsT h, lsT t) ∧ b = true ∧ lsT s = lsT h ++ 58 :: 58 :: lsT t))) ∧ Below w.heap.size w w' := by
  obtain ⟨_, ⟨m, hm⟩, _⟩ := hE
  refine (sh_strings_Cut s ddS m w hs hm).mono ?_
  rintro e w' ⟨rfl, n, rfl⟩
  refine ⟨⟨_, _, _, rfl, ?_⟩, ⟨rfl, rfl, rfl, Nat.le_refl _, fun k _ => rfl⟩⟩
  have hd : ddS.data.toList = [58, 58] := rfl
  rw [hd]
  have hl : lsT s = s.data.toList := rfl
  rcases cut_lib s.data.toList with ⟨h1, h2⟩ | ⟨h, t, h1, h2, h3⟩
  · refine .inl ⟨h1, by rw [h2], ?_, by rw [h2]; rfl⟩
    rw [h2]
  · rw [h2]
    exact .inr ⟨h1, rfl, h3⟩
theorem Repeat_run (n : Nat) (w : World) (hn : n ≤ 16) : Calls Tryd.prog 41 #[.string ⟨#[0]⟩, .int .i64 (n : Int)] w fun e w' => (∃ z, e = .returned (.string z) ∧ lsT z = List.replicate n 0) ∧ Below w.heap.size w w' := by
  have hz : (⟨#[0]⟩ : ByteArray).size = 1 := rfl
  refine (sh_strings_Repeat ⟨#[0]⟩ n w (by omega) (by rw [hz]; omega)).mono ?_
  rintro e w' ⟨rfl, hb⟩
  refine ⟨⟨_, rfl, ?_⟩, hb⟩
  show Lib.repeatL [0] n = List.replicate n 0
  clear hz hb hn
  induction n with
  | zero => rfl
  | succ n ih => rw [Lib.repeatL, ih]; rfl
end Go.Proofs.YtdlepeogmjmleaaDoor
/-
  Own text. The program's own parse4.
-/
namespace Go.Proofs.YtdlepeogmjmleaaDoor
open Go.RowKit Go.Proofs
set_option maxRecDepth 100000
theorem split_mem_len {c : UInt8} : ∀ (l : List UInt8) (p : List UInt8), p ∈ splitC c l → p.length ≤ l.length
  | [], p, hp => by
    simp [splitC] at hp
    rw [hp]
    exact Nat.le_refl _
  | x :: l, p, hp => by
    have ih := split_mem_len (c := c) l
    rw [splitC] at hp
    split at hp
    · rcases List.mem_cons.1 hp with e | hp
      · rw [e]; simp
      · have := ih p hp
        simp
        omega
    · cases h : splitC c l with
      | nil =>
        rw [h] at hp
        simp at hp
        rw [hp]
        simp
      | cons a b =>
        rw [h] at hp ih
        rcases List.mem_cons.1 hp with e | hp
        · have := ih a (by simp)
          rw [e]
          simp
          omega
        · have := ih p (by simp [hp])
          simp
          omega
/-- The pieces of a text that is cut at most n - 1 times. -/
theorem pieces_len {s : ByteArray} {c : UInt8} {n : Nat} {ps : List ByteArray} (h : ps.map lsT = Lib.splitK [c] 0 (min n (s.size + 1) - 1) (lsT s)) (hn : 1 ≤ n) : ps.length = min n (splitC c (lsT s)).length ∧ ((splitC c (lsT s)).length ≤ n → ps.map lsT = splitC c (lsT s)) ∧ (n < (splitC c (lsT s)).length → ∃ pre z, ps.map lsT = pre ++ [z] ∧ c ∈ z) := by
  obtain ⟨h1, h2, h3⟩ := splitK_c c (lsT s) (min n (s.size + 1) - 1)
  have hz := split_size c (lsT s)
  rw [lsT_len] at hz
  have hl : ps.length = (ps.map lsT).length := by rw [List.length_map]
  refine ⟨?_, fun hh => ?_, fun hh => ?_⟩
  · rw [hl, h, h1]
    omega
  · rw [h]
    exact h2 (by omega)
  · rw [h]
    exact h3 (by omega)
theorem tou_G1 {Y : World} {g5 : Nat} {c5 : Cont} {X2 : World} (_hs : Y.heap.size ≤ X2.heap.size) (w w' : World) (h : Touch (fun k => k = g5) Y w) (ht : Touch (fun k => X2.heap.size ≤ k ∨ k ∈ ([(g5, c5)] : List (Nat × Cont)).map (·.1)) w w') : Touch (fun k => k = g5) Y w' :=
  ⟨ht.os.trans h.os, ht.tape.trans h.tape, ht.output.trans h.output, Nat.le_trans h.size ht.size, fun k hk hn => (ht.block k (Nat.lt_of_lt_of_le hk h.size) (fun e => e.elim (fun e => by omega) (fun e => by simp at e; exact hn e))).trans (h.block k hk hn)⟩
theorem tou_below {T : Nat → Prop} {B : Nat} {w w' : World} (h : Touch T w w') (hT : ∀ k, T k → B ≤ k) (hB : B ≤ w.heap.size) : Below B w w' :=
  ⟨h.os, h.tape, h.output, h.size, fun k hk => h.block k (by omega) (fun e => by have := hT k e; omega)⟩
theorem exec_eqSb {a : Act} {o : Oper} {w : World} {x y : Operand} (ho : o.op = .binOp .eql 9 x y 9) {s t : ByteArray} (hx : a.eval x = .string s) (hy : a.eval y = .string t) {b : Bool} (hb : decide (s = t) = b) : (execOp a.eval o).run Tryd.prog w = .ok (.value (.bool b)) w := by
  subst hb
  exact exec_eqSd ho hx hy
theorem enterW_T4 (args : Array Value) (w : World) : (callFunc 22 args).run Tryd.prog w = .ok (.enter 22 args) w := by kernel_rfl
/-- What parse4 tells. -/
def Par4Q (R : Option (List Nat)) (e : Ending) : Prop := (∃ l, R = some l ∧ e = .returned (.tuple #[.agg (SC 17 (adV false (lsB l))), .bool true])) ∨ (R = none ∧ ∃ b, e = .returned (.tuple #[.agg (SC 17 (adV false b)), .bool false]))
theorem lsB_byts {l : List Nat} (h : ∀ n ∈ l, n < 256) : Byts 16 (lsB l) := fun j _ => by
  unfold lsB
  cases hj : l[j]? with
  | none => rw [List.getD_eq_getElem?_getD, hj]; exact ⟨by decide, by decide⟩
  | some n =>
    have := h n (List.mem_of_getElem? hj)
    rw [List.getD_eq_getElem?_getD, hj]
    exact ⟨by simp, by simp; omega⟩
set_option maxHeartbeats 16000000 in
theorem parse4_run (s : ByteArray) (w : World) (hs : s.size ≤ 2000000) (hE : Env w) : Calls Tryd.prog 27 #[.string s] w fun e w' => Par4Q (fourV (lsT s)) e ∧ Below w.heap.size w w' := by
  obtain ⟨R, hR⟩ : ∃ R, fourV (lsT s) = R := ⟨_, rfl⟩
  rw [hR]
  have HR := Hid.mk hR
  clear hR
  go_enter Tryd.func27, Tryd.ntmps27
  go_wp2_with (refine wl_alO rfl rfl zeroAddr ?_; intro g2 u1 hg2 q2 hB1; refine Hid.out ?_)
  refine Hid.mk ?_
  have HE1 := Hid.mk (hE.kept hB1)
  go_wp2_with (go_at_call 36; refine (SplitN_run s 46 5 _ (by omega) (by decide) (by decide) HE1.out).mono ?_; rintro e u2 ⟨g, cp, ps, rfl, hps, hrow, hgg, hB2⟩; refine Hid.out ?_)
  refine Hid.mk ?_
  obtain ⟨hl1, hl2, _⟩ := pieces_len hps (by decide)
  have p2 := SAt.kept q2 hB2
  have hBa := hB1.trans (hB2.mono hB1.size)
  clear q2 hB2 hps
  by_cases h4 : ps.length = 4
  · have hsp : ps.map lsT = splitC 46 (lsT s) := hl2 (by omega)
    have HSP := Hid.mk hsp
    rw [h4]
    have H4 := Hid.mk h4
    clear hl1 hl2 hsp h4
    go_wp2_with (refine wl_alO rfl rfl zeroAddr ?_; intro g5 u3 hg5 q5 hB3; refine Hid.out ?_)
    refine Hid.mk ?_
    have hg2l := SAt.lt p2
    have hBb := hBa.trans (hB3.mono hBa.size)
    have h52 : g5 ≠ g2 := by omega
    have hg5w : w.heap.size ≤ g5 := by have := hBa.size; omega
    have HGN : Hid (g ≠ g5) := Hid.mk (fun e => by
      have := World.block_lt_of_cell? _ _ (hrow 0 (ps[0]'(by rw [H4.out]; decide)) (List.getElem?_eq_getElem _))
      simp at this
      omega)
    have HS : Hid (SAt u3 g5 24 17 (adV false (fun _ => 0)) ∧ SAt u3 g2 24 17 (adV false (fun _ => 0)) ∧ RowS u3 g ps ∧ Below w.heap.size w u3) := Hid.mk ⟨q5, SAt.kept p2 hB3, hrow.kept hB3, hBb⟩
    have hgr := hgg
    clear q5 p2 hB3 hrow hBb hBa hB1 HE1 hg5 hg2l hgg
    go_wp2_with fail
    go_loopg [18] 4 (fun gm s18 z => ∃ (k : Nat) (l : List Nat), Hid (gm + k = 4) ∧ s18 = .int .i64 (k : Int) ∧ Hid (l.length = k ∧ (∀ i x, i < k → ps[i]? = some x → Lib.parseUintB 8 (lsT x) = .ok (l.getD i 0)) ∧ (∀ n ∈ l, n < 256)) ∧ Hid (SAt z g5 24 17 (adV false (lsB l)) ∧ SAt z g2 24 17 (adV false (fun _ => 0)) ∧ RowS z g ps ∧ Below w.heap.size w z))
    case atStart => exact ⟨0, [], Hid.mk rfl, rfl, Hid.mk ⟨rfl, fun i x hi => by omega, fun n hn => by simp at hn⟩, Hid.mk ⟨HS.out.1.congr (fun j _ => by unfold adV; split <;> rfl), HS.out.2⟩⟩
    case round =>
      obtain ⟨k, l, HK, rfl, HL, HW⟩ := hrel
      clear HS
      have hk4 : k ≤ 4 := by have := HK.out; omega
      obtain ⟨wI, hwI⟩ : ∃ x, x = wr := ⟨_, rfl⟩
      rw [← hwI] at HW ⊢
      clear hwI
      have HEW := Hid.mk (hE.kept HW.out.2.2.2)
      by_cases hk : k < 4
      · have hki : (k : Int) < 4 := by omega
        obtain ⟨x, hx⟩ : ∃ x, ps[k]? = some x := ⟨ps[k]'(by rw [H4.out]; exact hk), List.getElem?_eq_getElem _⟩
        have hxm : lsT x ∈ splitC 46 (lsT s) := by
          rw [← HSP.out]
          exact List.mem_map_of_mem (List.mem_of_getElem? hx)
        have hxl : x.size ≤ 2000000 := by
          have := split_mem_len _ _ hxm
          rw [lsT_len, lsT_len] at this
          omega
        have hcell : wI.cell? ((⟨g, 0, none⟩ : Addr).add k) = some (.string x) := by
          rw [Addr.add_lit, Nat.zero_add]
          exact HW.out.2.2.1 k x hx
        have HX := Hid.mk hx
        have HXM := Hid.mk hxm
        clear hx hxm
        go_wp2_with (first | (refine wl_value rfl (exec_ixSt (i := k) rfl (by rfl) (by rfl) hk) ?_) | (refine wl_value rfl (exec_ld rfl (by rfl) (load_str hcell)) ?_))
        refine (Parse10_run x _ (by omega) HEW.out).mono ?_
        rintro e u5 ⟨hq, hB5⟩
        have a5 := SAt.kept HW.out.1 hB5
        have a2 := SAt.kept HW.out.2.1 hB5
        have ar := HW.out.2.2.1.kept hB5
        have hBc := HW.out.2.2.2.trans (hB5.mono HW.out.2.2.2.size)
        rcases hq with ⟨n, hn, rfl⟩ | ⟨hn, u, tt, pp, rfl⟩
        · have hn256 := read_lt hn
          go_wp2_with (first | (refine wl_value rfl (exec_cvU8 (m := n) rfl (by rfl) hn256) ?_) | (refine wl_value rfl (exec_fadW1 rfl (by rfl)) ?_) | (refine wl_value rfl (exec_ixW16 (k := k) rfl (by rfl) (by rfl) (by omega)) ?_) | (refine wl_stA (k := k) rfl rfl a5 (by rfl) (by rfl) (by omega) ?_; intro u6 q6 o6; refine Hid.out ?_))
          refine Hid.mk ?_
          have HL2 : Hid ((l ++ [n]).length = k + 1 ∧ (∀ i x, i < k + 1 → ps[i]? = some x → Lib.parseUintB 8 (lsT x) = .ok ((l ++ [n]).getD i 0)) ∧ (∀ m ∈ l ++ [n], m < 256)) := Hid.mk ⟨by rw [List.length_append, HL.out.1]; rfl, fun i y hi hy => by
            rw [List.getD_eq_getElem?_getD]
            by_cases e : i = k
            · subst e
              rw [HX.out] at hy
              injection hy with hy
              subst hy
              rw [List.getElem?_append_right (by rw [HL.out.1]; exact Nat.le_refl _), HL.out.1, Nat.sub_self]
              exact hn
            · rw [List.getElem?_append_left (by rw [HL.out.1]; omega), ← List.getD_eq_getElem?_getD]
              exact HL.out.2.1 i y (by omega) hy, fun m hm => by
            rcases List.mem_append.1 hm with h | h
            · exact HL.out.2.2 m h
            · simp at h
              omega⟩
          have HW2 : Hid (SAt u6 g5 24 17 (adV false (lsB (l ++ [n]))) ∧ SAt u6 g2 24 17 (adV false (fun _ => 0)) ∧ RowS u6 g ps ∧ Below w.heap.size w u6) := Hid.mk ⟨q6.congr (fun j _ => by
              unfold adV
              by_cases e : j < 1
              · rw [if_pos e, if_pos e]
              · rw [if_neg e, if_neg e, lsB_upd HL.out.1]), a2.only o6 (Ne.symm h52), fun j y hy => by
                have hc := ar j y hy
                have hgn : g ≠ g5 := HGN.out
                rw [World.cell?, o6.block g hgn]
                exact hc, hBc.trans (o6.below hg5w)⟩
          clear q6 o6 a5 a2 ar hBc hB5 HW HEW
          go_wp2_with fail
          go_roundg (4 - (k + 1))
          case rel => exact ⟨k + 1, l ++ [n], Hid.mk (by omega), by go_num, HL2, HW2⟩
          case measure => have := HK.out; omega
        · have HN : Hid (R = none) := Hid.mk (by rw [← HR.out]; exact four_bad HXM.out hn)
          go_wp2_with (first | (refine wl_value rfl (exec_adW0 rfl) ?_) | (refine st_stO rfl rfl isAddr (adV_one _ _) a2 (by rfl) (by rfl) ?_; intro u6 q6 o6; refine Hid.out ?_))
          refine Hid.mk ?_
          go_wp2_with fail
          exact bodyPost_ret (res_ct rfl isAddr q6 (by rfl) (by rfl)) rfl ⟨.inr ⟨HN.out, _, rfl⟩, hBc.trans (o6.below hg2)⟩
      · have hk2 : k = 4 := by omega
        subst hk2
        obtain ⟨a, b, c, d, rfl⟩ : ∃ a b c d, l = [a, b, c, d] := by
          have hl := HL.out.1
          match l, hl with
          | [a, b, c, d], _ => exact ⟨a, b, c, d, rfl⟩
        obtain ⟨x0, x1, x2, x3, hpe⟩ : ∃ x0 x1 x2 x3, ps = [x0, x1, x2, x3] := by
          have hl := H4.out
          match ps, hl with
          | [x0, x1, x2, x3], _ => exact ⟨x0, x1, x2, x3, rfl⟩
        have hF := four_eq (s := lsT s) (p0 := lsT x0) (p1 := lsT x1) (p2 := lsT x2) (p3 := lsT x3) (a := a) (b := b) (c := c) (d := d) (by rw [← HSP.out, hpe]; rfl) (HL.out.2.1 0 x0 (by decide) (by rw [hpe]; rfl)) (HL.out.2.1 1 x1 (by decide) (by rw [hpe]; rfl)) (HL.out.2.1 2 x2 (by decide) (by rw [hpe]; rfl)) (HL.out.2.1 3 x3 (by decide) (by rw [hpe]; rfl))
        rw [HR.out] at hF
        have hby : Byts 16 (lsB [a, b, c, d]) := lsB_byts HL.out.2.2
        have hfs : lsT (fourS (lsB [a, b, c, d])) = fourT a b c d := rfl
        obtain ⟨q, hq⟩ : ∃ q, decide (fourS (lsB [a, b, c, d]) = s) = q := ⟨_, rfl⟩
        have hF2 : R = if q = true then some [a, b, c, d] else none := by
          rw [hF, ← hq]
          by_cases e : fourT a b c d = lsT s
          · rw [if_pos e, if_pos (decide_eq_true (lsT_inj (by rw [hfs, e])))]
          · rw [if_neg e, if_neg (fun h => e (by rw [← hfs, of_decide_eq_true h]))]
        have HF := Hid.mk hF2
        have HQ := Hid.mk hq
        obtain ⟨A, hA⟩ : ∃ A, lsB [a, b, c, d] = A := ⟨_, rfl⟩
        have HAe := Hid.mk hA
        rw [hA] at HW HQ hby
        clear hF hF2 hq hfs hA hpe
        have HBW := Hid.mk HW.out.2.2.2
        have y2 := HW.out.2.1
        have HS5 : Hid (∀ X, Touch (fun k => k = g2) wI X → SAt X g5 24 17 (adV false A)) := Hid.mk (fun X hX => HW.out.1.tou hX h52)
        have HEX : Hid (∀ X, Touch (fun k => k = g2) wI X → Env X) := Hid.mk (fun X hX => hE.kept (HBW.out.trans (tou_below hX (fun k hk => by rw [hk]; exact hg2) HBW.out.size)))
        clear HW HEW HL
        go_upto_region 13 with fail
        refine wp_region3 (Touch (fun k => k = g2) wI) wI.heap.size
            [(g2, once (SC 17 (adV false (fun _ => 0))) 24 5 (SC 17 (adV false A)))]
            [kv (.agg (SC 17 (adV false A))), kv (.agg (SC 17 (adV false A))), kv (.string (fourS A)), kv (.string s), kv (.bool q), .val fun _ => True, kv (.bool q)]
            [.none, .none, .none, .none, .none, .base 0 1, .none]
            [some 37, some 38, some 39, some 40, some 41, none, some 3]
            [(0, .string s), (2, .pointer (some ⟨g2, 0, none⟩)), (5, .pointer (some ⟨g5, 0, none⟩))]
            [[], [], [.slot 1], [], [.slot 2, .slot 3], [.slot 0, .base 0 0], [.slot 4]]
            [.slot 6, .base 0 1] [37, 38, 39, 40, 41, 3]
            rfl (by kernel_rfl) ⟨rfl, rfl, rfl, trivial⟩ (Touch.refl _ _).drew (Nat.le_refl _) ⟨⟨SAt.lt y2, obIn y2⟩, trivial⟩ ⟨trivial, trivial⟩ (tou_G1 (Nat.le_refl _))
            ⟨
              (fun Q aq ww own hS hBg fr kn => .inl ⟨trivial, fun K hK => wp_value (look_st rfl isAddr (HS5.out ww hS) fr.2.2.1) (hK _ _ ⟨Touch.refl _ _, rfl⟩)⟩),
              (fun Q aq ww own hS hBg fr kn => .inl ⟨trivial, fun K hK => wp_value (look_st rfl isAddr (HS5.out ww hS) fr.2.2.1) (hK _ _ ⟨Touch.refl _ _, rfl⟩)⟩),
              (fun Q aq ww own hS hBg fr kn => .inl ⟨trivial, fun K hK => stepc enterW_T4 rfl (args1 kn.1) (text4_run false A ww hby (HEX.out ww hS)) (fun w' hb => hK _ _ ⟨touch_below hb, rfl⟩)⟩),
              (fun Q aq ww own hS hBg fr kn => .inl ⟨trivial, fun K hK => wp_value (exec_move rfl fr.1) (hK _ _ ⟨Touch.refl _ _, rfl⟩)⟩),
              (fun Q aq ww own hS hBg fr kn => .inl ⟨trivial, fun K hK => wp_value (exec_eqSb rfl kn.1 kn.2.1 HQ.out) (hK _ _ ⟨Touch.refl _ _, rfl⟩)⟩),
              (fun Q aq ww own hS hBg fr kn => .inl ⟨trivial, fun K hK => act_st7 rfl isAddr (adV_one _ _) fr.2.1 kn.1 (obAt kn.2.1) (fun w2 hg ho => hK _ _ ⟨⟨touch_only ho, obIn hg⟩, trivial⟩)⟩),
              (fun Q aq ww own hS hBg fr kn => .inl ⟨trivial, fun K hK => wp_value (exec_assign rfl kn.1) (hK _ _ ⟨Touch.refl _ _, rfl⟩)⟩),
              trivial⟩ ?_
        intro vs own Y3 hS3 hsz kn inj
        have e3 : vs 3 = .bool q := kn.1
        have z2 : SAt Y3 g2 24 17 (adV false A) := obAt kn.2.1
        clear kn inj hsz
        simp only [putAll, Act.put, List.setIfInBounds_toArray, List.set_cons_zero, List.set_cons_succ, e3]
        clear e3
        have hB3 : Below w.heap.size w Y3 := HBW.out.trans (tou_below hS3 (fun k hk => by rw [hk]; exact hg2) HBW.out.size)
        go_wp2_with fail
        refine bodyPost_ret (res_ct rfl isAddr z2 (by rfl) (by rfl)) rfl ⟨?_, hB3⟩
        have hF := HF.out
        cases q
        · exact .inr ⟨hF, _, rfl⟩
        · exact .inl ⟨_, hF, by rw [HAe.out]; rfl⟩
  · have h4b : ((ps.length : Int) != 4) = true := bne_iff_ne.2 (by omega)
    have HN : Hid (R = none) := Hid.mk (by rw [← HR.out]; exact four_not (by omega))
    clear hl1 hl2
    go_wp2_with (first | (refine wl_value rfl (exec_adW0 rfl) ?_) | (refine st_stO rfl rfl isAddr (adV_one _ _) p2 (by rfl) (by rfl) ?_; intro u6 q6 o6; refine Hid.out ?_))
    refine Hid.mk ?_
    go_wp2_with fail
    exact bodyPost_ret (res_ct rfl isAddr q6 (by rfl) (by rfl)) rfl ⟨.inr ⟨HN.out, _, rfl⟩, hBa.trans (o6.below hg2)⟩
end Go.Proofs.YtdlepeogmjmleaaDoor
/-
  Own text. The program's own parsePairs.
-/
namespace Go.Proofs.YtdlepeogmjmleaaDoor
open Go.RowKit Go.Proofs
set_option maxRecDepth 100000
theorem splitK_len (c : UInt8) : ∀ (k : Nat) (l p : List UInt8), p ∈ Lib.splitK [c] 0 k l → p.length ≤ l.length
  | 0, l, p, hp => by
    simp [Lib.splitK] at hp
    rw [hp]
    exact Nat.le_refl _
  | k + 1, l, p, hp => by
    rw [Lib.splitK] at hp
    split at hp
    · simp at hp
      rw [hp]
      exact Nat.le_refl _
    · rcases List.mem_cons.1 hp with e | hp
      · rw [e, List.length_take]
        omega
      · have := splitK_len c k _ p hp
        rw [List.length_drop] at this
        omega
/-- The bytes of pairs. -/
def bytL (P : List Nat) : List UInt8 := P.flatMap fun n => [UInt8.ofNat (n / 256), UInt8.ofNat (n % 256)]
theorem bytL_len (P : List Nat) : (bytL P).length = 2 * P.length := by
  induction P with
  | nil => rfl
  | cons n P ih =>
    unfold bytL at ih ⊢
    rw [List.flatMap_cons, List.length_append, ih]
    simp
    omega
theorem bytL_snoc (P : List Nat) (n : Nat) : bytL (P ++ [n]) = bytL P ++ [UInt8.ofNat (n / 256), UInt8.ofNat (n % 256)] := by
  unfold bytL
  rw [List.flatMap_append]
  rfl
theorem bytL_app (P Q : List Nat) : bytL (P ++ Q) = bytL P ++ bytL Q := by
  unfold bytL
  rw [List.flatMap_append]
theorem bytL_zero (n : Nat) : bytL (List.replicate n 0) = List.replicate (2 * n) 0 := by
  induction n with
  | zero => rfl
  | succ n ih =>
    rw [List.replicate_succ, show (0 : Nat) :: List.replicate n 0 = [0] ++ List.replicate n 0 from rfl, bytL_app, ih, show 2 * (n + 1) = 2 + 2 * n by omega, ← List.replicate_append_replicate]
    rfl
theorem put2_ls {n : Nat} (hn : n < 65536) : lsT (putT n 2) = [UInt8.ofNat (n / 256), UInt8.ofNat (n % 256)] := by
  have h1 : putF n 2 0 = ((n / 256 : Nat) : Int) := by unfold putF; simp; omega
  have h2 : putF n 2 1 = ((n % 256 : Nat) : Int) := by unfold putF; simp
  unfold putT
  simp [lsT, mkS, bytesL, List.range_succ, h1, h2]
  exact ⟨by congr 1, by congr 1⟩
theorem pair_read {x : List UInt8} {n : Nat} (h4 : x.length ≤ 4) (h : hexB x = .ok n) : pairV x = some n := by
  rw [hexB_pair h4] at h
  cases hp : pairV x with
  | none => rw [hp] at h; cases h
  | some m =>
    rw [hp] at h
    injection h with h
    rw [h]
theorem pair_bad {x : List UInt8} (h : ∀ n, hexB x ≠ .ok n) : pairV x = none := by
  by_cases h4 : x.length ≤ 4
  · cases hp : pairV x with
    | none => rfl
    | some m => exact absurd (by rw [hexB_pair h4, hp]) (h m)
  · exact pair_long (by omega)
/-- What parsePairs tells. -/
def PairQ (R : Option (List Nat)) (e : Ending) : Prop := (∃ P T, R = some P ∧ lsT T = bytL P ∧ e = .returned (.tuple #[.string T, .bool true])) ∨ (R = none ∧ e = .returned (.tuple #[.string ByteArray.empty, .bool false]))
set_option maxHeartbeats 16000000 in
theorem parsePairs_run (s : ByteArray) (w : World) (hs : s.size ≤ 2000000) (hE : Env w) : Calls Tryd.prog 39 #[.string s] w fun e w' => PairQ (pairs9 (lsT s)) e ∧ Below w.heap.size w w' := by
  obtain ⟨R, hR⟩ : ∃ R, pairs9 (lsT s) = R := ⟨_, rfl⟩
  rw [hR]
  have HR := Hid.mk hR
  clear hR
  obtain ⟨q, hq⟩ : ∃ q, decide (s = (⟨#[]⟩ : ByteArray)) = q := ⟨_, rfl⟩
  have HQ := Hid.mk hq
  go_enter Tryd.func39, Tryd.ntmps39
  cases q
  · have hne : lsT s ≠ [] := fun e => of_decide_eq_false hq (lsT_inj e)
    clear hq
    have HRE : Hid (R = if (splitC 58 (lsT s)).length ≤ 9 then allO pairV (splitC 58 (lsT s)) else none) := Hid.mk (by rw [← HR.out]; unfold pairs9; rw [if_neg hne])
    have HE1 := Hid.mk hE
    go_wp2_with (first | (refine wl_value rfl (exec_eqSb (t := ⟨#[]⟩) rfl (by rfl) (by rfl) HQ.out) ?_) | (go_at_call 36; refine (SplitN_run s 58 9 _ (by omega) (by decide) (by decide) HE1.out).mono ?_; rintro e u2 ⟨g, cp, ps, rfl, hps, hrow, hgg, hB2⟩; refine Hid.out ?_))
    refine Hid.mk ?_
    obtain ⟨_, hl2, hl3⟩ := pieces_len hps (by decide)
    have HPZ : Hid (∀ x ∈ ps, x.size ≤ 2000000) := Hid.mk (fun x hx => by
      have h1 : lsT x ∈ ps.map lsT := List.mem_map_of_mem hx
      rw [hps] at h1
      have := splitK_len 58 _ _ _ h1
      rw [lsT_len, lsT_len] at this
      omega)
    have hN9 : ps.length ≤ 9 := by
      have h1 := (pieces_len hps (by decide)).1
      omega
    have HBAD : Hid (∀ x ∈ ps, pairV (lsT x) = none → R = none) := Hid.mk (fun x hx hn => by
      rw [HRE.out]
      by_cases h9 : (splitC 58 (lsT s)).length ≤ 9
      · rw [if_pos h9, ← hl2 h9]
        exact allO_none (List.mem_map_of_mem hx) hn
      · rw [if_neg h9])
    have HGOOD : Hid (∀ l, allO pairV (ps.map lsT) = some l → R = some l) := Hid.mk (fun l hl => by
      rw [HRE.out]
      by_cases h9 : (splitC 58 (lsT s)).length ≤ 9
      · rw [if_pos h9, ← hl2 h9]
        exact hl
      · exfalso
        obtain ⟨pre, z, hz, hm⟩ := hl3 (by omega)
        have := allO_none (f := pairV) (l := ps.map lsT) (a := z) (by rw [hz]; simp) (pair_colon hm)
        rw [this] at hl
        cases hl)
    obtain ⟨N, hN⟩ : ∃ N, ps.length = N := ⟨_, rfl⟩
    have HN := Hid.mk hN
    rw [hN] at hN9 ⊢
    clear hps hl2 hl3 HRE HR HE1 hN
    go_wp2_with fail
    go_loopg [4, 14] N (fun gm s4 s14 z => ∃ (k : Nat) (l : List Nat) (T : ByteArray), Hid (gm + k = N) ∧ k ≤ N ∧ s14 = .int .i64 (k : Int) ∧ s4 = .string T ∧ Hid (lsT T = bytL l ∧ l.length = k ∧ allO pairV ((ps.map lsT).take k) = some l) ∧ Hid (RowS z g ps ∧ Below w.heap.size w z))
    case atStart => exact ⟨0, [], ⟨#[]⟩, Hid.mk rfl, by omega, rfl, rfl, Hid.mk ⟨rfl, rfl, rfl⟩, Hid.mk ⟨hrow, hB2⟩⟩
    case round =>
      obtain ⟨k, l, T, HK, hkN, rfl, rfl, HL, HW⟩ := hrel
      obtain ⟨wI, hwI⟩ : ∃ x, x = wr := ⟨_, rfl⟩
      rw [← hwI] at HW ⊢
      clear hwI
      have HEW := Hid.mk (hE.kept HW.out.2)
      by_cases hk : k < N
      · have hki : (k : Int) < (N : Int) := by omega
        obtain ⟨x, hx⟩ : ∃ x, ps[k]? = some x := ⟨ps[k]'(by rw [HN.out]; exact hk), List.getElem?_eq_getElem _⟩
        have hxl := HPZ.out x (List.mem_of_getElem? hx)
        have HBX := Hid.mk (HBAD.out x (List.mem_of_getElem? hx))
        have HTK : Hid ((ps.map lsT).take (k + 1) = (ps.map lsT).take k ++ [lsT x]) := Hid.mk (by
          rw [List.take_add_one, List.getElem?_map, hx]
          rfl)
        have hcell : wI.cell? ((⟨g, 0, none⟩ : Addr).add k) = some (.string x) := by
          rw [Addr.add_lit, Nat.zero_add]
          exact HW.out.1 k x hx
        clear hx
        have hTs : T.size = 2 * k := by rw [← lsT_len, HL.out.1, bytL_len, HL.out.2.1]
        have HTS := Hid.mk hTs
        clear hTs
        go_wp2_with (first | (refine wl_value rfl (exec_ixSt (i := k) rfl (by rfl) (by rfl) hk) ?_) | (refine wl_value rfl (exec_ld rfl (by rfl) (load_str hcell)) ?_))
        refine (Parse16_run x _ (by omega) HEW.out).mono ?_
        rintro e u5 ⟨hq, hB5⟩
        have ar := HW.out.1.kept hB5
        have hBc := HW.out.2.trans (hB5.mono HW.out.2.size)
        obtain ⟨M, hM⟩ : ∃ M, x.size = M := ⟨_, rfl⟩
        rcases hq with ⟨n, hn, rfl⟩ | ⟨hn, u, tt, pp, rfl⟩
        · by_cases h4 : 4 < M
          · have h4i : (4 : Int) < (M : Int) := by omega
            have HNO : Hid (R = none) := Hid.mk (HBX.out (pair_long (by rw [lsT_len, hM]; exact h4)))
            go_wp2_with fail
            exact bodyPost_ret (results_two rfl (by rfl) (by rfl)) rfl ⟨.inr ⟨HNO.out, rfl⟩, hBc⟩
          · have h4i : ¬ (4 : Int) < (M : Int) := by omega
            have hpv : pairV (lsT x) = some n := pair_read (by rw [lsT_len, hM]; omega) hn
            have hn6 := pair_lt hpv
            have HPV := Hid.mk hpv
            have HC2 : Hid (T.size + (putT n 2).size ≤ 9223372036854775807) := Hid.mk (by
              have h1 : (putT n 2).size = 2 := by rw [← lsT_len, put2_ls hn6]; rfl
              rw [HTS.out, h1]
              omega)
            go_wp2_with (first | (go_at_call 20; refine (Put_run n 2 _ (by decide) (by decide)).mono ?_; rintro e u6 ⟨rfl, hB6⟩; refine Hid.out ?_))
            refine Hid.mk ?_
            have HL2 : Hid (lsT (T ++ putT n 2) = bytL (l ++ [n]) ∧ (l ++ [n]).length = k + 1 ∧ allO pairV ((ps.map lsT).take (k + 1)) = some (l ++ [n])) := Hid.mk ⟨by rw [lsT_app, HL.out.1, put2_ls hn6, bytL_snoc], by rw [List.length_append, HL.out.2.1]; rfl, by
              rw [HTK.out]
              exact allO_snoc _ _ _ _ HL.out.2.2 HPV.out⟩
            have HW2 : Hid (RowS u6 g ps ∧ Below w.heap.size w u6) := Hid.mk ⟨ar.kept hB6, hBc.trans (hB6.mono hBc.size)⟩
            clear ar hBc hB5 hB6 HW HEW HL
            go_wp2_with (refine wl_value rfl (exec_catS rfl (by rfl) (by rfl) HC2.out) ?_)
            go_roundg (N - (k + 1))
            case rel => exact ⟨k + 1, l ++ [n], T ++ putT n 2, Hid.mk (by omega), by omega, by go_num, rfl, HL2, HW2⟩
            case measure => have := HK.out; omega
        · have HNO : Hid (R = none) := Hid.mk (HBX.out (pair_bad hn))
          go_wp2_with fail
          exact bodyPost_ret (results_two rfl (by rfl) (by rfl)) rfl ⟨.inr ⟨HNO.out, rfl⟩, hBc⟩
      · have hk2 : k = N := by omega
        subst hk2
        have HF : Hid (R = some l) := Hid.mk (HGOOD.out l (by
          have := HL.out.2.2
          rw [List.take_of_length_le (by rw [List.length_map, HN.out]; exact Nat.le_refl _)] at this
          exact this))
        go_wp2_with fail
        exact bodyPost_ret (results_two rfl (by rfl) (by rfl)) rfl ⟨.inl ⟨l, T, HF.out, HL.out.1, rfl⟩, HW.out.2⟩
  · have he : s = ⟨#[]⟩ := of_decide_eq_true hq
    have HF : Hid (R = some []) := Hid.mk (by rw [← HR.out, he]; rfl)
    clear hq he
    go_wp2_with (refine wl_value rfl (exec_eqSb (t := ⟨#[]⟩) rfl (by rfl) (by rfl) HQ.out) ?_)
    exact bodyPost_ret (results_two rfl (by rfl) (by rfl)) rfl ⟨.inl ⟨[], ⟨#[]⟩, HF.out, rfl, rfl⟩, Below.refl _ _⟩
end Go.Proofs.YtdlepeogmjmleaaDoor
/-
  Own text. The sixteen bytes of eight pairs.
-/
namespace Go.Proofs.YtdlepeogmjmleaaDoor
open Go.RowKit Go.Proofs
set_option maxRecDepth 100000
def prB (l : List Nat) (j : Nat) : Int := if j % 2 = 0 then ((l.getD (j / 2) 0 / 256 : Nat) : Int) else ((l.getD (j / 2) 0 % 256 : Nat) : Int)
theorem txt_getD (s : ByteArray) (j : Nat) : txt s j = (((lsT s).getD j 0).toNat : Int) := by
  by_cases h : j < s.size
  · obtain ⟨x, hx, hy⟩ := lsT_at h
    rw [hy, List.getD_eq_getElem?_getD, ← List.head?_drop, hx]
    rfl
  · have h1 : (lsT s).length ≤ j := by rw [lsT_len]; omega
    rw [List.getD_eq_getElem?_getD, List.getElem?_eq_none h1]
    unfold txt
    rw [List.getD_eq_getElem?_getD, List.getElem?_eq_none (by simpa [lsT] using h1)]
end Go.Proofs.YtdlepeogmjmleaaDoor
/-
  Own text. The program's own parse6 and Parse.
-/
namespace Go.Proofs.YtdlepeogmjmleaaDoor
open Go.RowKit Go.Proofs
set_option maxRecDepth 100000
theorem bytL_at : ∀ (P : List Nat) (j : Nat), j < 2 * P.length → (bytL P)[j]? = some (UInt8.ofNat (if j % 2 = 0 then P.getD (j / 2) 0 / 256 else P.getD (j / 2) 0 % 256))
  | [], j, h => by simp at h
  | n :: P, 0, _ => rfl
  | n :: P, 1, _ => rfl
  | n :: P, j + 2, h => by
    have e : bytL (n :: P) = [UInt8.ofNat (n / 256), UInt8.ofNat (n % 256)] ++ bytL P := rfl
    rw [e, List.getElem?_append_right (by simp)]
    have ih := bytL_at P j (by simp at h; omega)
    rw [show j + 2 - [UInt8.ofNat (n / 256), UInt8.ofNat (n % 256)].length = j from rfl, ih, show (j + 2) % 2 = j % 2 by omega, show (j + 2) / 2 = j / 2 + 1 by omega]
    rfl
theorem fr_pr {F : ByteArray} {P : List Nat} (h : lsT F = bytL P) (h8 : P.length = 8) (hp : ∀ p ∈ P, p < 65536) {j : Nat} (hj : j < 16) : frB F j = prB P j := by
  have hs : F.size = 16 := by rw [← lsT_len, h, bytL_len, h8]
  unfold frB prB
  rw [if_pos (by omega), txt_getD, h, List.getD_eq_getElem?_getD, bytL_at P j (by omega)]
  have hq : P.getD (j / 2) 0 < 65536 := by
    rw [List.getD_eq_getElem?_getD, List.getElem?_eq_getElem (by omega)]
    exact hp _ (List.getElem_mem _)
  generalize P.getD (j / 2) 0 = m at hq
  by_cases e : j % 2 = 0
  · rw [if_pos e, if_pos e]
    have : m / 256 < 256 := by omega
    simp
    omega
  · rw [if_neg e, if_neg e]
    have : m % 256 < 256 := by omega
    simp
/-- What parse6 tells. -/
def Par6Q (R : Option (List Nat)) (e : Ending) : Prop := (∃ P, R = some P ∧ e = .returned (.tuple #[.agg (SC 17 (adV true (prB P))), .bool true])) ∨ (R = none ∧ ∃ v b, e = .returned (.tuple #[.agg (SC 17 (adV v b)), .bool false]))
set_option maxHeartbeats 32000000 in
theorem parse6_run (s : ByteArray) (w : World) (hs : s.size ≤ 2000000) (hE : Env w) : Calls Tryd.prog 28 #[.string s] w fun e w' => Par6Q (sixV (lsT s)) e ∧ Below w.heap.size w w' := by
  obtain ⟨R, hR⟩ : ∃ R, sixV (lsT s) = R := ⟨_, rfl⟩
  rw [hR]
  have HR := Hid.mk hR
  clear hR
  go_enter Tryd.func28, Tryd.ntmps28
  go_wp2_with (refine wl_alO rfl rfl zeroAddr ?_; intro g2 u1 hg2 p1 hB1; refine Hid.out ?_)
  refine Hid.mk ?_
  go_wp2_with fail
  refine (Cut_run s _ (by omega) (hE.kept hB1)).mono ?_
  rintro e u2 ⟨⟨h, t, b, rfl, hcut⟩, hB2⟩
  have hBa := hB1.trans (hB2.mono hB1.size)
  have p2 := SAt.kept p1 hB2
  clear p1 hB1 hB2
  have hsz : h.size ≤ 2000000 ∧ t.size ≤ 2000000 := by
    rcases hcut with ⟨_, _, rfl, rfl⟩ | ⟨_, _, hsl⟩
    · exact ⟨hs, Nat.zero_le _⟩
    · have := congrArg List.length hsl
      rw [lsT_len, List.length_append, List.length_cons, List.length_cons, lsT_len, lsT_len] at this
      omega
  have HSIX : Hid ((b = false ∧ R = oneV (pairs9 (lsT h)) ∧ pairs9 (lsT t) = some []) ∨ (b = true ∧ R = twoV (pairs9 (lsT h)) (pairs9 (lsT t)))) := Hid.mk (by
    rw [← HR.out]
    rcases hcut with ⟨hc, rfl, rfl, rfl⟩ | ⟨hc, rfl, _⟩
    · exact .inl ⟨rfl, six9_no hc, rfl⟩
    · exact .inr ⟨rfl, six9_cut hc⟩)
  obtain ⟨hsh, hst⟩ := hsz
  clear hcut HR
  go_wp2_with fail
  refine (parsePairs_run h _ hsh (hE.kept hBa)).mono ?_
  rintro e u3 ⟨hq1, hB3⟩
  have hBb := hBa.trans (hB3.mono hBa.size)
  have p3 := SAt.kept p2 hB3
  clear p2 hBa hB3
  rcases hq1 with ⟨A, T1, hA, hT1, rfl⟩ | ⟨hA, rfl⟩
  · go_wp2_with fail
    refine (parsePairs_run t _ hst (hE.kept hBb)).mono ?_
    rintro e u4 ⟨hq2, hB4⟩
    have hBd := hBb.trans (hB4.mono hBb.size)
    have p4 := SAt.kept p3 hB4
    clear p3 hBb hB4
    have hal := pairs9_len hA
    obtain ⟨n1, hn1⟩ : ∃ n1, T1.size = n1 := ⟨_, rfl⟩
    have hn1a : n1 = 2 * A.length := by rw [← hn1, ← lsT_len, hT1, bytL_len]
    have HT1 := Hid.mk hT1
    have HAP := Hid.mk hal.2
    have hal9 := hal.1
    clear hT1 hal
    rcases hq2 with ⟨B, T2, hB, hT2, rfl⟩ | ⟨hB, rfl⟩
    · have hbl := pairs9_len hB
      obtain ⟨n2, hn2⟩ : ∃ n2, T2.size = n2 := ⟨_, rfl⟩
      have hn2b : n2 = 2 * B.length := by rw [← hn2, ← lsT_len, hT2, bytL_len]
      have HT2 := Hid.mk hT2
      have HBP := Hid.mk hbl.2
      have hbl9 := hbl.1
      clear hT2 hbl
      rw [hA, hB] at HSIX
      rcases HSIX.out with ⟨rfl, hRv, hBn⟩ | ⟨rfl, hRv⟩
      · injection hBn with hBn
        subst hBn
        have hn20 : n2 = 0 := hn2b
        clear hn2b HSIX
        have hRv : R = if A.length = 8 then some A else none := hRv
        by_cases h8 : A.length = 8
        · have HYES : Hid (R = some A) := Hid.mk (by rw [hRv, if_pos h8])
          clear hRv
          obtain ⟨q1, hq1⟩ : ∃ q1, 16 = n1 + q1 := ⟨16 - n1, by omega⟩
          obtain ⟨L, hL⟩ : ∃ L, q1 = n2 + L := ⟨q1 - n2, by omega⟩
          have hL16 : L ≤ 16 := by omega
          have hn1l : n1 ≤ 16 := by omega
          have hn2l : n2 ≤ 16 := by omega
          have hq1l : q1 ≤ 16 := by omega
          have HLE : Hid (L = 0) := Hid.mk (by omega)
          clear hn1a hal9 hn20
          have HD2 : Hid (decide ((0 : Int) < (L : Int)) = false) := Hid.mk (decide_eq_false (by have := HLE.out; omega))
          have HQL := Hid.mk (And.intro hq1 hL)
          clear hq1 hL
          go_wp2_with (first | (refine wl_value rfl (exec_subW (i := 16) (m := n1) (q := q1) rfl (by rfl) (by rfl) HQL.out.1 (by omega)) ?_) | (refine wl_value rfl (exec_subW (i := q1) (m := n2) (q := L) rfl (by rfl) (by rfl) HQL.out.2 (by omega)) ?_) | (refine wl_value rfl (exec_gtW (m := (L : Int)) (n := 0) rfl (by rfl) (by rfl) HD2.out) ?_))
          refine (Repeat_run L _ hL16).mono ?_
          rintro e v1 ⟨⟨z, rfl, hz⟩, hB5⟩
          have hzs : z.size = L := by rw [← lsT_len, hz, List.length_replicate]
          have HZ := Hid.mk hz
          have HC1 : Hid (T1.size + z.size ≤ 9223372036854775807) := Hid.mk (by rw [hn1, hzs]; have := HQL.out; omega)
          have HC2 : Hid ((T1 ++ z).size + T2.size ≤ 9223372036854775807) := Hid.mk (by rw [ByteArray.size_append, hn1, hzs, hn2]; have := HQL.out; omega)
          obtain ⟨F, hF⟩ : ∃ F, T1 ++ z ++ T2 = F := ⟨_, rfl⟩
          have hFs : F.size = 16 := by rw [← hF, ByteArray.size_append, ByteArray.size_append, hn1, hzs, hn2]; have := HQL.out; omega
          have HFF : Hid (adV (decide (F.size = 16)) (frB F) = adV true (frB F)) := Hid.mk (by rw [decide_eq_true hFs])
          have HFB : Hid (SC 17 (adV true (frB F)) = SC 17 (adV true (prB A))) := Hid.mk (adV_ext (fun j hj => fr_pr (by rw [← hF, lsT_app, lsT_app, HT1.out, HT2.out, HZ.out]; exact (by rw [HLE.out]; simp [bytL])) h8 HAP.out hj))
          have HFR := Hid.mk (From_run F v1 (.inr hFs))
          rw [HFF.out] at HFR
          have p5 := SAt.kept p4 hB5
          have hBe := hBd.trans (hB5.mono hBd.size)
          clear hz hzs HFF hFs p4
          go_wp2_with (first | (refine wl_value rfl (exec_catS rfl (by rfl) (by rfl) HC1.out) ?_) | (refine wl_value rfl (exec_catS rfl (by rfl) (by rfl) HC2.out) ?_; simp only [hF]) | (go_at_call 40; refine HFR.out.mono ?_; rintro e v2 ⟨rfl, hB6⟩; refine Hid.out ?_))
          refine Hid.mk ?_
          have p6 := SAt.kept p5 hB6
          have hBf := hBe.trans (hB6.mono hBe.size)
          go_wp2_with (refine wl_alO rfl rfl zeroAddr ?_; intro g12 v3 hg12 q12 hB7; refine Hid.out ?_)
          refine Hid.mk ?_
          have p7 := SAt.kept p6 hB7
          have hBg := hBf.trans (hB7.mono hBf.size)
          have h12 : g2 ≠ g12 := by have := SAt.lt p6; omega
          have hg12w : w.heap.size ≤ g12 := by have := hBf.size; omega
          go_wp2_with (refine st_stO rfl rfl isAddr (adV_one _ _) q12 (by rfl) (by rfl) ?_; intro v4 q13 o8; refine Hid.out ?_)
          refine Hid.mk ?_
          have p8 := p7.only o8 h12
          have hBh := hBg.trans (o8.below hg12w)
          go_wp2_with (first | (refine wl_value rfl (look_st rfl isAddr q13 (by rfl)) ?_) | (refine st_stO rfl rfl isAddr (adV_one _ _) p8 (by rfl) (by rfl) ?_; intro v5 q14 o9; refine Hid.out ?_))
          refine Hid.mk ?_
          go_wp2_with fail
          exact bodyPost_ret (res_ct rfl isAddr q14 (by rfl) (by rfl)) rfl ⟨.inl ⟨_, HYES.out, by rw [HFB.out]; rfl⟩, hBh.trans (o9.below hg2)⟩
        · have HNO : Hid (R = none) := Hid.mk (by rw [hRv, if_neg h8])
          clear hRv
          have hnn : n1 ≤ 18 ∧ n2 ≤ 18 := by omega
          by_cases hlt : A.length < 8
          · as_aux_lemma =>
              obtain ⟨q1, hq1⟩ : ∃ q1, 16 = n1 + q1 := ⟨16 - n1, by omega⟩
              obtain ⟨L, hL⟩ : ∃ L, q1 = n2 + L := ⟨q1 - n2, by omega⟩
              have hL16 : L ≤ 16 := by omega
              have hn1l : n1 ≤ 16 := by omega
              have hn2l : n2 ≤ 16 := by omega
              have hq1l : q1 ≤ 16 := by omega
              have HD2 : Hid (decide ((0 : Int) < (L : Int)) = true) := Hid.mk (decide_eq_true (by omega))
              clear hn1a hn20 hlt h8 hal9 hbl9 hnn
              have HQL := Hid.mk (And.intro hq1 hL)
              clear hq1 hL
              go_wp2_with (first | (refine wl_value rfl (exec_subW (i := 16) (m := n1) (q := q1) rfl (by rfl) (by rfl) HQL.out.1 (by omega)) ?_) | (refine wl_value rfl (exec_subW (i := q1) (m := n2) (q := L) rfl (by rfl) (by rfl) HQL.out.2 (by omega)) ?_) | (refine wl_value rfl (exec_gtW (m := (L : Int)) (n := 0) rfl (by rfl) (by rfl) HD2.out) ?_) | (refine wl_value rfl (exec_adW0 rfl) ?_) | (refine st_stO rfl rfl isAddr (adV_one _ _) p4 (by rfl) (by rfl) ?_; intro u6 q6 o6; refine Hid.out ?_))
              refine Hid.mk ?_
              go_wp2_with fail
              exact bodyPost_ret (res_ct rfl isAddr q6 (by rfl) (by rfl)) rfl ⟨.inr ⟨HNO.out, _, _, rfl⟩, hBd.trans (o6.below hg2)⟩
          · have hi1 : (16 : Int) - (n1 : Int) - (n2 : Int) < 0 := by omega
            clear hn1a hn20 hlt h8 hal9 hbl9
            go_wp2_with (first | (refine wl_value rfl (exec_adW0 rfl) ?_) | (refine st_stO rfl rfl isAddr (adV_one _ _) p4 (by rfl) (by rfl) ?_; intro u6 q6 o6; refine Hid.out ?_))
            refine Hid.mk ?_
            go_wp2_with fail
            exact bodyPost_ret (res_ct rfl isAddr q6 (by rfl) (by rfl)) rfl ⟨.inr ⟨HNO.out, _, _, rfl⟩, hBd.trans (o6.below hg2)⟩
      · have hRv : R = if A.length + B.length ≤ 7 then some (A ++ (List.replicate (8 - A.length - B.length) 0 ++ B)) else none := hRv
        clear HSIX
        by_cases h7 : A.length + B.length ≤ 7
        · have HYES : Hid (R = some (A ++ (List.replicate (8 - A.length - B.length) 0 ++ B))) := Hid.mk (by rw [hRv, if_pos h7])
          clear hRv
          obtain ⟨q1, hq1⟩ : ∃ q1, 16 = n1 + q1 := ⟨16 - n1, by omega⟩
          obtain ⟨L, hL⟩ : ∃ L, q1 = n2 + L := ⟨q1 - n2, by omega⟩
          have hL16 : L ≤ 16 := by omega
          have hn1l : n1 ≤ 16 := by omega
          have hn2l : n2 ≤ 16 := by omega
          have hq1l : q1 ≤ 16 := by omega
          have HLE : Hid (L = 2 * (8 - A.length - B.length)) := Hid.mk (by omega)
          clear hn1a hn2b hal9 hbl9
          have HD2 : Hid (decide ((0 : Int) < (L : Int)) = true) := Hid.mk (decide_eq_true (by have := HLE.out; omega))
          have HQL := Hid.mk (And.intro hq1 hL)
          clear hq1 hL
          go_wp2_with (first | (refine wl_value rfl (exec_subW (i := 16) (m := n1) (q := q1) rfl (by rfl) (by rfl) HQL.out.1 (by omega)) ?_) | (refine wl_value rfl (exec_subW (i := q1) (m := n2) (q := L) rfl (by rfl) (by rfl) HQL.out.2 (by omega)) ?_) | (refine wl_value rfl (exec_gtW (m := (L : Int)) (n := 0) rfl (by rfl) (by rfl) HD2.out) ?_))
          refine (Repeat_run L _ hL16).mono ?_
          rintro e v1 ⟨⟨z, rfl, hz⟩, hB5⟩
          have hzs : z.size = L := by rw [← lsT_len, hz, List.length_replicate]
          have HZ := Hid.mk hz
          have HC1 : Hid (T1.size + z.size ≤ 9223372036854775807) := Hid.mk (by rw [hn1, hzs]; have := HQL.out; omega)
          have HC2 : Hid ((T1 ++ z).size + T2.size ≤ 9223372036854775807) := Hid.mk (by rw [ByteArray.size_append, hn1, hzs, hn2]; have := HQL.out; omega)
          obtain ⟨F, hF⟩ : ∃ F, T1 ++ z ++ T2 = F := ⟨_, rfl⟩
          have hFs : F.size = 16 := by rw [← hF, ByteArray.size_append, ByteArray.size_append, hn1, hzs, hn2]; have := HQL.out; omega
          have HFF : Hid (adV (decide (F.size = 16)) (frB F) = adV true (frB F)) := Hid.mk (by rw [decide_eq_true hFs])
          have HFB : Hid (SC 17 (adV true (frB F)) = SC 17 (adV true (prB (A ++ (List.replicate (8 - A.length - B.length) 0 ++ B))))) := Hid.mk (adV_ext (fun j hj => fr_pr (by rw [← hF, lsT_app, lsT_app, HT1.out, HT2.out, HZ.out]; exact (by rw [bytL_app, bytL_app, bytL_zero, HLE.out, List.append_assoc])) (by simp; omega) (fun p hp => by rcases List.mem_append.1 hp with e | e; exact HAP.out p e; rcases List.mem_append.1 e with e | e; (rw [List.eq_of_mem_replicate e]; decide); exact HBP.out p e) hj))
          have HFR := Hid.mk (From_run F v1 (.inr hFs))
          rw [HFF.out] at HFR
          have p5 := SAt.kept p4 hB5
          have hBe := hBd.trans (hB5.mono hBd.size)
          clear hz hzs HFF hFs p4
          go_wp2_with (first | (refine wl_value rfl (exec_catS rfl (by rfl) (by rfl) HC1.out) ?_) | (refine wl_value rfl (exec_catS rfl (by rfl) (by rfl) HC2.out) ?_; simp only [hF]) | (go_at_call 40; refine HFR.out.mono ?_; rintro e v2 ⟨rfl, hB6⟩; refine Hid.out ?_))
          refine Hid.mk ?_
          have p6 := SAt.kept p5 hB6
          have hBf := hBe.trans (hB6.mono hBe.size)
          go_wp2_with (refine wl_alO rfl rfl zeroAddr ?_; intro g12 v3 hg12 q12 hB7; refine Hid.out ?_)
          refine Hid.mk ?_
          have p7 := SAt.kept p6 hB7
          have hBg := hBf.trans (hB7.mono hBf.size)
          have h12 : g2 ≠ g12 := by have := SAt.lt p6; omega
          have hg12w : w.heap.size ≤ g12 := by have := hBf.size; omega
          go_wp2_with (refine st_stO rfl rfl isAddr (adV_one _ _) q12 (by rfl) (by rfl) ?_; intro v4 q13 o8; refine Hid.out ?_)
          refine Hid.mk ?_
          have p8 := p7.only o8 h12
          have hBh := hBg.trans (o8.below hg12w)
          go_wp2_with (first | (refine wl_value rfl (look_st rfl isAddr q13 (by rfl)) ?_) | (refine st_stO rfl rfl isAddr (adV_one _ _) p8 (by rfl) (by rfl) ?_; intro v5 q14 o9; refine Hid.out ?_))
          refine Hid.mk ?_
          go_wp2_with fail
          exact bodyPost_ret (res_ct rfl isAddr q14 (by rfl) (by rfl)) rfl ⟨.inl ⟨_, HYES.out, by rw [HFB.out]; rfl⟩, hBh.trans (o9.below hg2)⟩
        · have HNO : Hid (R = none) := Hid.mk (by rw [hRv, if_neg h7])
          clear hRv
          have hnn : n1 ≤ 18 ∧ n2 ≤ 18 := by omega
          by_cases hlt : A.length + B.length = 8
          · as_aux_lemma =>
              obtain ⟨q1, hq1⟩ : ∃ q1, 16 = n1 + q1 := ⟨16 - n1, by omega⟩
              obtain ⟨L, hL⟩ : ∃ L, q1 = n2 + L := ⟨q1 - n2, by omega⟩
              have hL16 : L ≤ 16 := by omega
              have hn1l : n1 ≤ 16 := by omega
              have hn2l : n2 ≤ 16 := by omega
              have hq1l : q1 ≤ 16 := by omega
              have HD2 : Hid (decide ((0 : Int) < (L : Int)) = false) := Hid.mk (decide_eq_false (by omega))
              clear hn1a hn2b hlt h7 hal9 hbl9 hnn
              have HQL := Hid.mk (And.intro hq1 hL)
              clear hq1 hL
              go_wp2_with (first | (refine wl_value rfl (exec_subW (i := 16) (m := n1) (q := q1) rfl (by rfl) (by rfl) HQL.out.1 (by omega)) ?_) | (refine wl_value rfl (exec_subW (i := q1) (m := n2) (q := L) rfl (by rfl) (by rfl) HQL.out.2 (by omega)) ?_) | (refine wl_value rfl (exec_gtW (m := (L : Int)) (n := 0) rfl (by rfl) (by rfl) HD2.out) ?_) | (refine wl_value rfl (exec_adW0 rfl) ?_) | (refine st_stO rfl rfl isAddr (adV_one _ _) p4 (by rfl) (by rfl) ?_; intro u6 q6 o6; refine Hid.out ?_))
              refine Hid.mk ?_
              go_wp2_with fail
              exact bodyPost_ret (res_ct rfl isAddr q6 (by rfl) (by rfl)) rfl ⟨.inr ⟨HNO.out, _, _, rfl⟩, hBd.trans (o6.below hg2)⟩
          · have hi1 : (16 : Int) - (n1 : Int) - (n2 : Int) < 0 := by omega
            clear hn1a hn2b hlt h7 hal9 hbl9
            go_wp2_with (first | (refine wl_value rfl (exec_adW0 rfl) ?_) | (refine st_stO rfl rfl isAddr (adV_one _ _) p4 (by rfl) (by rfl) ?_; intro u6 q6 o6; refine Hid.out ?_))
            refine Hid.mk ?_
            go_wp2_with fail
            exact bodyPost_ret (res_ct rfl isAddr q6 (by rfl) (by rfl)) rfl ⟨.inr ⟨HNO.out, _, _, rfl⟩, hBd.trans (o6.below hg2)⟩
    · have HNO : Hid (R = none) := Hid.mk (by
        rcases HSIX.out with ⟨_, _, h0⟩ | ⟨_, h0⟩
        · rw [hB] at h0; cases h0
        · rw [h0, hA, hB]; rfl)
      clear HSIX
      go_wp2_with (first | (refine wl_value rfl (exec_adW0 rfl) ?_) | (refine st_stO rfl rfl isAddr (adV_one _ _) p4 (by rfl) (by rfl) ?_; intro u6 q6 o6; refine Hid.out ?_))
      refine Hid.mk ?_
      go_wp2_with fail
      exact bodyPost_ret (res_ct rfl isAddr q6 (by rfl) (by rfl)) rfl ⟨.inr ⟨HNO.out, _, _, rfl⟩, hBd.trans (o6.below hg2)⟩
  · go_wp2_with fail
    refine (parsePairs_run t _ hst (hE.kept hBb)).mono ?_
    rintro e u4 ⟨hq2, hB4⟩
    have hBd := hBb.trans (hB4.mono hBb.size)
    have p4 := SAt.kept p3 hB4
    clear p3 hBb hB4
    have HNO : Hid (R = none) := Hid.mk (by
      rcases HSIX.out with ⟨_, h0, _⟩ | ⟨_, h0⟩
      · rw [h0, hA]; rfl
      · rw [h0, hA]; cases pairs9 (lsT t) <;> rfl)
    clear HSIX
    rcases hq2 with ⟨B, T2, hB, hT2, rfl⟩ | ⟨hB, rfl⟩
    · have hbl := pairs9_len hB
      obtain ⟨n2, hn2⟩ : ∃ n2, T2.size = n2 := ⟨_, rfl⟩
      have hn2b : n2 = 2 * B.length := by rw [← hn2, ← lsT_len, hT2, bytL_len]
      have hbl9 := hbl.1
      clear hT2 hbl hB hA
      go_wp2_with (first | (refine wl_value rfl (exec_adW0 rfl) ?_) | (refine st_stO rfl rfl isAddr (adV_one _ _) p4 (by rfl) (by rfl) ?_; intro u6 q6 o6; refine Hid.out ?_))
      refine Hid.mk ?_
      go_wp2_with fail
      exact bodyPost_ret (res_ct rfl isAddr q6 (by rfl) (by rfl)) rfl ⟨.inr ⟨HNO.out, _, _, rfl⟩, hBd.trans (o6.below hg2)⟩
    · clear hA hB
      go_wp2_with (first | (refine wl_value rfl (exec_adW0 rfl) ?_) | (refine st_stO rfl rfl isAddr (adV_one _ _) p4 (by rfl) (by rfl) ?_; intro u6 q6 o6; refine Hid.out ?_))
      refine Hid.mk ?_
      go_wp2_with fail
      exact bodyPost_ret (res_ct rfl isAddr q6 (by rfl) (by rfl)) rfl ⟨.inr ⟨HNO.out, _, _, rfl⟩, hBd.trans (o6.below hg2)⟩
/-- What Parse tells. -/
def ParseQ (R : Option (Bool × List Nat)) (e : Ending) : Prop := (∃ l, R = some (false, l) ∧ e = .returned (.tuple #[.agg (SC 17 (adV false (lsB l))), .int .i64 0])) ∨ (∃ l, R = some (true, l) ∧ e = .returned (.tuple #[.agg (SC 17 (adV true (prB l))), .int .i64 0])) ∨ (R = none ∧ e = .returned (.tuple #[.agg (SC 17 (adV false (fun _ => 0))), .int .i64 76]))
end Go.Proofs.YtdlepeogmjmleaaDoor
/-
  Own text. The program's own Parse.
-/
namespace Go.Proofs.YtdlepeogmjmleaaDoor
open Go.RowKit Go.Proofs
set_option maxRecDepth 100000
set_option maxHeartbeats 16000000 in
theorem Parse_run (s : ByteArray) (w : World) (hs : s.size ≤ 2000000) (hE : Env w) : Calls Tryd.prog 17 #[.string s] w fun e w' => ParseQ (parV (lsT s)) e ∧ Below w.heap.size w w' := by
  have HP4 : Hid (∀ l, fourV (lsT s) = some l → parV (lsT s) = some (false, l)) := Hid.mk (fun l e => by unfold parV; rw [e])
  have HP6 : Hid (∀ l, fourV (lsT s) = none → sixV (lsT s) = some l → parV (lsT s) = some (true, l)) := Hid.mk (fun l e e2 => by unfold parV; rw [e, e2])
  have HPN : Hid (fourV (lsT s) = none → sixV (lsT s) = none → parV (lsT s) = none) := Hid.mk (fun e e2 => by unfold parV; rw [e, e2])
  generalize parV (lsT s) = R at *
  go_enter Tryd.func17, Tryd.ntmps17
  go_wp2_with (refine wl_alO rfl rfl zeroAddr ?_; intro g2 u1 hg2 p1 hB1; refine Hid.out ?_)
  refine Hid.mk ?_
  go_wp2_with fail
  refine (parse4_run s _ hs (hE.kept hB1)).mono ?_
  rintro e u2 ⟨hq, hB2⟩
  have hBa := hB1.trans (hB2.mono hB1.size)
  have p2 := SAt.kept p1 hB2
  clear p1 hB1 hB2
  rcases hq with ⟨l, hl, rfl⟩ | ⟨hl, b, rfl⟩
  · have HY := Hid.mk (HP4.out l hl)
    clear HP4 HP6 HPN
    go_wp2_with (refine wl_alO rfl rfl zeroAddr ?_; intro g4 u3 hg4 q4 hB3; refine Hid.out ?_)
    refine Hid.mk ?_
    have p3 := SAt.kept p2 hB3
    have hBb := hBa.trans (hB3.mono hBa.size)
    have h24 : g2 ≠ g4 := by have := SAt.lt p2; omega
    have hg4w : w.heap.size ≤ g4 := by have := hBa.size; omega
    go_wp2_with (refine st_stO rfl rfl isAddr (adV_one _ _) q4 (by rfl) (by rfl) ?_; intro u4 q5 o4; refine Hid.out ?_)
    refine Hid.mk ?_
    have p4 := p3.only o4 h24
    have hBc := hBb.trans (o4.below hg4w)
    go_wp2_with (first | (refine wl_value rfl (look_st rfl isAddr q5 (by rfl)) ?_) | (refine st_stO rfl rfl isAddr (adV_one _ _) p4 (by rfl) (by rfl) ?_; intro u6 q6 o6; refine Hid.out ?_))
    refine Hid.mk ?_
    go_wp2_with fail
    exact bodyPost_ret (res_ct rfl isAddr q6 (by rfl) (by rfl)) rfl ⟨.inl ⟨l, HY.out, rfl⟩, hBc.trans (o6.below hg2)⟩
  · go_wp2_with (refine wl_alO rfl rfl zeroAddr ?_; intro g4 u3 hg4 q4 hB3; refine Hid.out ?_)
    refine Hid.mk ?_
    have p3 := SAt.kept p2 hB3
    have hBb := hBa.trans (hB3.mono hBa.size)
    have h24 : g2 ≠ g4 := by have := SAt.lt p2; omega
    have hg4w : w.heap.size ≤ g4 := by have := hBa.size; omega
    go_wp2_with (refine st_stO rfl rfl isAddr (adV_one _ _) q4 (by rfl) (by rfl) ?_; intro u4 q5 o4; refine Hid.out ?_)
    refine Hid.mk ?_
    have p4 := p3.only o4 h24
    have hBc := hBb.trans (o4.below hg4w)
    clear p2 p3 q4 q5 o4 hBa hBb hB3
    go_wp2_with fail
    refine (parse6_run s _ hs (hE.kept hBc)).mono ?_
    rintro e v1 ⟨hq, hB5⟩
    have hBd := hBc.trans (hB5.mono hBc.size)
    have p5 := SAt.kept p4 hB5
    clear p4 hBc hB5
    rcases hq with ⟨P, hP, rfl⟩ | ⟨hP, v, b', rfl⟩
    · have HY := Hid.mk (HP6.out P hl hP)
      clear HP4 HP6 HPN
      go_wp2_with (refine wl_alO rfl rfl zeroAddr ?_; intro g6 v3 hg6 q7 hB7; refine Hid.out ?_)
      refine Hid.mk ?_
      have p6 := SAt.kept p5 hB7
      have hBe := hBd.trans (hB7.mono hBd.size)
      have h26 : g2 ≠ g6 := by have := SAt.lt p5; omega
      have hg6w : w.heap.size ≤ g6 := by have := hBd.size; omega
      go_wp2_with (refine st_stO rfl rfl isAddr (adV_one _ _) q7 (by rfl) (by rfl) ?_; intro v4 q8 o8; refine Hid.out ?_)
      refine Hid.mk ?_
      have p8 := p6.only o8 h26
      have hBf := hBe.trans (o8.below hg6w)
      go_wp2_with (first | (refine wl_value rfl (look_st rfl isAddr q8 (by rfl)) ?_) | (refine st_stO rfl rfl isAddr (adV_one _ _) p8 (by rfl) (by rfl) ?_; intro u6 q6 o6; refine Hid.out ?_))
      refine Hid.mk ?_
      go_wp2_with fail
      exact bodyPost_ret (res_ct rfl isAddr q6 (by rfl) (by rfl)) rfl ⟨.inr (.inl ⟨P, HY.out, rfl⟩), hBf.trans (o6.below hg2)⟩
    · have HY := Hid.mk (HPN.out hl hP)
      clear HP4 HP6 HPN
      go_wp2_with (refine wl_alO rfl rfl zeroAddr ?_; intro g6 v3 hg6 q7 hB7; refine Hid.out ?_)
      refine Hid.mk ?_
      have p6 := SAt.kept p5 hB7
      have hBe := hBd.trans (hB7.mono hBd.size)
      have h26 : g2 ≠ g6 := by have := SAt.lt p5; omega
      have hg6w : w.heap.size ≤ g6 := by have := hBd.size; omega
      go_wp2_with (refine st_stO rfl rfl isAddr (adV_one _ _) q7 (by rfl) (by rfl) ?_; intro v4 q8 o8; refine Hid.out ?_)
      refine Hid.mk ?_
      have p8 := p6.only o8 h26
      have hBf := hBe.trans (o8.below hg6w)
      go_wp2_with (first | (refine wl_value rfl (exec_adW0 rfl) ?_) | (refine st_stO rfl rfl isAddr (adV_one _ _) p8 (by rfl) (by rfl) ?_; intro u6 q6 o6; refine Hid.out ?_))
      refine Hid.mk ?_
      go_wp2_with fail
      exact bodyPost_ret (res_ct rfl isAddr q6 (by rfl) (by rfl)) rfl ⟨.inr (.inr ⟨HY.out, rfl⟩), hBf.trans (o6.below hg2)⟩
end Go.Proofs.YtdlepeogmjmleaaDoor
/-
  Own text. The law's own awake: it answers true.
-/
namespace Go.Proofs.YtdlepeogmjmleaaDoor
open Go.RowKit Go.Proofs
set_option maxRecDepth 100000
def oneS : ByteArray := ⟨#[58, 58, 49]⟩
def sumS : ByteArray := ⟨#[0, 1, 242, 3, 244, 245, 246, 247]⟩
def getS : ByteArray := ⟨#[1, 2, 3]⟩
def dotS : ByteArray := ⟨#[49, 57, 50, 46, 48, 46, 50, 46, 49]⟩
theorem aw_text : textV false (v4B 192 0 2 1) = dotS := by decide +kernel
theorem aw_valid : validF false (v4B 192 0 2 1) = true := by decide +kernel
theorem aw_byts : Byts 16 (v4B 192 0 2 1) := fun j hj => by
  unfold v4B
  repeat' split
  all_goals omega
theorem aw_parse : parV (lsT oneS) = some (true, [0, 0, 0, 0, 0, 0, 0, 1]) := by decide +kernel
theorem aw_get : getN (txt getS) 1 2 = 515 := by decide +kernel
theorem aw_sum : sumT sumS = 8717 := by decide +kernel
theorem aw_put : putT 258 2 = (⟨#[1, 2]⟩ : ByteArray) := by decide +kernel
theorem aw_par_eq {e : Ending} (h : ParseQ (parV (lsT oneS)) e) : e = .returned (.tuple #[.agg (SC 17 (adV true (prB [0, 0, 0, 0, 0, 0, 0, 1]))), .int .i64 0]) := by
  rw [aw_parse] at h
  rcases h with ⟨l, hl, _⟩ | ⟨l, hl, he⟩ | ⟨hl, _⟩
  · injection hl with hl
    injection hl with h1 h2
    cases h1
  · injection hl with hl
    injection hl with h1 h2
    rw [he, h2]
  · cases hl
theorem joinB_one (s : ByteArray) : joinB (one1 s) 1 = s := by
  show ByteArray.empty ++ s = s
  simp
set_option maxHeartbeats 16000000 in
theorem awake_run (w : World) (hE : Env w) : Calls Tryd.prog 4 #[] w fun e w' => e = .returned (.bool true) ∧ Below w.heap.size w w' := by
  have HV4 : Hid (∀ ww, Calls Tryd.prog 15 #[.int .u8 192, .int .u8 0, .int .u8 2, .int .u8 1] ww fun e w' => e = .returned (.agg (SC 17 (adV false (v4B 192 0 2 1)))) ∧ Below ww.heap.size ww w') := Hid.mk (fun ww => V4_run 192 0 2 1 ww)
  have HTX : Hid (∀ ww, Env ww → Calls Tryd.prog 5 #[.agg (SC 17 (adV false (v4B 192 0 2 1)))] ww fun e w' => e = .returned (.tuple #[.string dotS, .int .i64 0]) ∧ Below ww.heap.size ww w') := Hid.mk (fun ww h => by
    have := Text_run false (v4B 192 0 2 1) ww aw_byts h aw_valid
    rw [aw_text] at this
    exact this)
  have HVA : Hid (∀ ww, Calls Tryd.prog 7 #[.agg (SC 17 (adV false (v4B 192 0 2 1)))] ww fun e w' => e = .returned (.bool true) ∧ Below ww.heap.size ww w') := Hid.mk (fun ww => by
    have := Valid_run false (v4B 192 0 2 1) ww
    rw [aw_valid] at this
    exact this)
  generalize v4B 192 0 2 1 = A at *
  have HPA : Hid (∀ ww, Env ww → Calls Tryd.prog 17 #[.string oneS] ww fun e w' => e = .returned (.tuple #[.agg (SC 17 (adV true (prB [0, 0, 0, 0, 0, 0, 0, 1]))), .int .i64 0]) ∧ Below ww.heap.size ww w') := Hid.mk (fun ww h => (Parse_run oneS ww (by decide) h).mono (fun e w' hh => ⟨aw_par_eq hh.1, hh.2⟩))
  have hb15 : prB [0, 0, 0, 0, 0, 0, 0, 1] 15 = 1 := by decide
  generalize prB [0, 0, 0, 0, 0, 0, 0, 1] = D at *
  have HGE : Hid (∀ ww, Calls Tryd.prog 18 #[.string getS, .int .i64 1, .int .i64 2] ww fun e w' => e = .returned (.tuple #[.int .u64 515, .bool true]) ∧ w' = ww) := Hid.mk (fun ww => by
    have := Get_run getS 1 2 ww (by decide) (by decide) (by decide) (by decide)
    rw [aw_get] at this
    exact this)
  have HSU : Hid (∀ ww g, Strs ww (.slice (some ⟨g, 0, none⟩) 1 1) 1 (one1 sumS) → Calls Tryd.prog 19 #[.slice (some ⟨g, 0, none⟩) 1 1] ww fun e w' => e = .returned (.int .i64 8717) ∧ w' = ww) := Hid.mk (fun ww g hc => by
    have := Sum_run (.slice (some ⟨g, 0, none⟩) 1 1) 1 (one1 sumS) ww hc (by decide) (by rw [joinB_one]; decide)
    rw [joinB_one, aw_sum] at this
    exact this)
  have HPU : Hid (∀ ww, Calls Tryd.prog 20 #[.int .u64 258, .int .i64 2] ww fun e w' => e = .returned (.string ⟨#[1, 2]⟩) ∧ Below ww.heap.size ww w') := Hid.mk (fun ww => by
    have := Put_run 258 2 ww (by decide) (by decide)
    rw [aw_put] at this
    exact this)
  go_enter Tryd.func4, Tryd.ntmps4
  go_wp2_with (first | (go_at_call 15; refine (HV4.out _).mono ?_; rintro e u1 ⟨rfl, hB1⟩; refine Hid.out ?_))
  refine Hid.mk ?_
  go_wp2_with (refine wl_alO rfl rfl zeroAddr ?_; intro g1 u2 hg1 q1 hB2; refine Hid.out ?_)
  refine Hid.mk ?_
  have hBa := hB1.trans (hB2.mono hB1.size)
  have hg1w : w.heap.size ≤ g1 := by have := hB1.size; omega
  go_wp2_with (refine st_stO rfl rfl isAddr (adV_one _ _) q1 (by rfl) (by rfl) ?_; intro u3 q2 o2; refine Hid.out ?_)
  refine Hid.mk ?_
  have hBb := hBa.trans (o2.below hg1w)
  have HEb := Hid.mk (hE.kept hBb)
  go_wp2_with (first | (refine wl_value rfl (look_st rfl isAddr q2 (by rfl)) ?_) | (go_at_call 5; refine (HTX.out _ HEb.out).mono ?_; rintro e u4 ⟨rfl, hB3⟩; refine Hid.out ?_))
  refine Hid.mk ?_
  have q3 := SAt.kept q2 hB3
  have hBc := hBb.trans (hB3.mono hBb.size)
  have HEc := Hid.mk (hE.kept hBc)
  go_wp2_with (first | (go_at_call 17; refine (HPA.out _ HEc.out).mono ?_; rintro e u5 ⟨rfl, hB4⟩; refine Hid.out ?_))
  refine Hid.mk ?_
  have q4 := SAt.kept q3 hB4
  have hBd := hBc.trans (hB4.mono hBc.size)
  go_wp2_with (refine wl_alO rfl rfl zeroAddr ?_; intro g4 u6 hg4 r1 hB5; refine Hid.out ?_)
  refine Hid.mk ?_
  have q5 := SAt.kept q4 hB5
  have hBe := hBd.trans (hB5.mono hBd.size)
  have h14 : g1 ≠ g4 := by have := SAt.lt q4; omega
  have hg4w : w.heap.size ≤ g4 := by have := hBd.size; omega
  go_wp2_with (refine st_stO rfl rfl isAddr (adV_one _ _) r1 (by rfl) (by rfl) ?_; intro u7 r2 o3; refine Hid.out ?_)
  refine Hid.mk ?_
  have q6 := q5.only o3 h14
  have hBf := hBe.trans (o3.below hg4w)
  clear q1 q2 q3 q4 q5 r1 o2 o3 hB1 hB2 hB3 hB4 hB5 hBa hBb hBc hBd hBe HEb HEc
  go_wp2_with (first | (go_at_call 18; refine (HGE.out _).mono ?_; rintro e u8 ⟨rfl, rfl⟩) | (refine wl_bsS1 rfl rfl (by rfl) ?_; intro gS u9 hgS cS hB9; refine Hid.out ?_))
  refine Hid.mk ?_
  have q7 := SAt.kept q6 hB9
  have r7 := SAt.kept r2 hB9
  have c0 := ad_v r7
  have c15 := ad_b r7 15 (by decide)
  rw [hb15] at c15
  have hBg := hBf.trans (hB9.mono hBf.size)
  have HS2 := Hid.mk (HSU.out u9 gS cS)
  clear HSU q6 r2 hB9
  go_wp2_with (first | (go_at_call 19; refine HS2.out.mono ?_; rintro e v1 ⟨rfl, rfl⟩) | (refine wl_value rfl (exec_eqS (s := dotS) rfl (by rfl) (by rfl)) ?_) | (refine wl_value rfl (exec_fadW0 rfl (by rfl)) ?_) | (refine wl_value rfl (exec_ld rfl (by rfl) (ldWb c0)) ?_) | (refine wl_value rfl (exec_fadW1 rfl (by rfl)) ?_) | (refine wl_value rfl (exec_ixW16 (k := 15) rfl (by rfl) (by rfl) (by decide)) ?_) | (refine wl_value rfl (exec_ld rfl (by rfl) (ldW8 c15)) ?_) | (refine wl_value rfl (look_st rfl isAddr q7 (by rfl)) ?_) | (go_at_call 7; refine (HVA.out _).mono ?_; rintro e v2 ⟨rfl, hBh⟩; refine Hid.out ?_))
  refine Hid.mk ?_
  have hBi := hBg.trans (hBh.mono hBg.size)
  go_wp2_with (first | (go_at_call 20; refine (HPU.out _).mono ?_; rintro e v3 ⟨rfl, hBj⟩; refine Hid.out ?_))
  refine Hid.mk ?_
  go_wp2_with (refine wl_value rfl (exec_eqS (s := ⟨#[1, 2]⟩) rfl (by rfl) (by rfl)) ?_)
  go_ret
  exact ⟨rfl, hBi.trans (hBj.mono hBi.size)⟩
end Go.Proofs.YtdlepeogmjmleaaDoor
/-
  Own text. What the tied condition on the library's variables gives; arguments.
-/
namespace Go.Proofs.YtdlepeogmjmleaaDoor
open Go.ChangeShapes Go.WideShapes Go.ChangeAt Go.WideMaps Go.WideElems Go.RowKit Go.Proofs
set_option maxRecDepth 100000
theorem own : ownKnob Tryd.prog.godebug = none := by kernel_rfl
def laidP : List (String × DataW Unit) := Rows.wireAddrsRow.laid
noncomputable def pinW (os : Os) : World := { World.doorLaid Tryd.prog 400 os with heap := (World.doorLaid Tryd.prog 400 os).heap.setIfInBounds 6 (.cells (Pinned.utf8FirstZ.map fun z : Nat => Value.int .u8 (z : Int)).toArray 121 (0, 0)) }
/-- A world in which the variables stand as they are laid, the pinned table among them. -/
theorem door_met (os : Os) (args : Array Value) : laidMet Tryd.prog laidP ((pinW os).forCall (fun _ _ => 0) ⟨#[], args, []⟩).memory :=
  laidMet_of_run' 8 (by kernel_rfl) (by kernel_rfl)
def litsOf : DataW Unit → List Int
  | .agg l => l.map fun x => match x with
    | .lit (.int _ z) => z
    | _ => 0
  | _ => []
def debT : List Int := litsOf Rows.laid_math_bits_deBruijn64tab
theorem deb_data : (Rows.laid_math_bits_deBruijn64tab : DataW Unit) = Lib.tabData .u8 debT := by kernel_rfl
theorem pow_data : (Rows.laid_internal_strconv_uint64pow10 : DataW Unit) = Lib.tabData .u64 Lib.pow10Tab := by kernel_rfl
theorem gDeb : Tryd.prog.globalNamed "math/bits.deBruijn64tab" = some 5 := by kernel_rfl
theorem gPow : Tryd.prog.globalNamed "internal/strconv.uint64pow10" = some 0 := by kernel_rfl
theorem gRan : Tryd.prog.globalNamed "strconv.ErrRange" = some 2 := by kernel_rfl
theorem gSyn : Tryd.prog.globalNamed "strconv.ErrSyntax" = some 1 := by kernel_rfl
theorem tDeb : (Tryd.prog.globals[5]?).map (·.type) = some 116 := by kernel_rfl
theorem tPow : (Tryd.prog.globals[0]?).map (·.type) = some 86 := by kernel_rfl
theorem tRan : (Tryd.prog.globals[2]?).map (·.type) = some 58 := by kernel_rfl
theorem tSyn : (Tryd.prog.globals[1]?).map (·.type) = some 58 := by kernel_rfl
theorem cellsEr : Tryd.prog.cellsOf 119 = 1 := by kernel_rfl
theorem cellsSt : Tryd.prog.cellsOf 9 = 1 := by kernel_rfl
theorem starEr : "*" ++ "errors.errorString" = "*errors.errorString" := by decide
theorem rowEr (u : TypeId) (h : Tryd.prog.typeName? 3 u = some "*errors.errorString") : u = 117 :=
  typeName_ptr_named (nm := "errors.errorString") (by rw [starEr]; kernel_rfl) (by kernel_rfl) (by decide) u (by rw [starEr]; exact h)
theorem deb15 : debT.getD 15 0 = 4 := by kernel_rfl
theorem debL : debT.length = 64 := by kernel_rfl
theorem env_of_laid {W : World} (h : laidMetH Tryd.prog laidP W) (hs : W.ShapedOpen Tryd.prog) : Env W := by
  rw [MakeChecks.laidMetH_plain _ _ _ (by kernel_rfl)] at h
  have h1 := laidMet.tail h
  have h2 := laidMet.tail h1
  have h3 := laidMet.tail h2
  have h4 := laidMet.tail h3
  have h5 := laidMet.tail h4
  have hd : laidMet Tryd.prog (("math/bits.deBruijn64tab", Lib.tabData .u8 debT) :: (laidP.drop 2)) W := by
    rw [← deb_data]; exact h1
  have hp : laidMet Tryd.prog (("internal/strconv.uint64pow10", Lib.tabData .u64 Lib.pow10Tab) :: (laidP.drop 3)) W := by
    rw [← pow_data]; exact h2
  have td := Lib.tabIs_of_head gDeb tDeb Tryd.underlying116 Tryd.underlying5 (by kernel_rfl) (by kernel_rfl) hd
  have tp := Lib.tabIs_of_head gPow tPow Tryd.underlying86 Tryd.underlying34 (by kernel_rfl) (by kernel_rfl) hp
  have c15 := Lib.TabIs.cell td gDeb 15 (by rw [debL]; decide)
  rw [deb15] at c15
  refine ⟨tp, ?_, ?_, ?_, c15⟩
  · exact cell_of_shapedOpen_int (zero := #[.int .i64 0]) (t := 3) hs (of_decide_eq_true (by kernel_rfl)) (by kernel_rfl) rfl (by kernel_rfl) (by kernel_rfl) Tryd.underlying3
  · obtain ⟨a, st, hv, _⟩ := laid_sentinel h5 gSyn tSyn Tryd.underlying58 rowEr Tryd.underlying117 Tryd.underlying119 rfl rfl Tryd.underlying9 cellsEr cellsSt
    exact ⟨_, _, by have h0 := World.var?_cell gSyn hv 0; simpa using h0⟩
  · obtain ⟨a, st, hv, _⟩ := laid_sentinel h4 gRan tRan Tryd.underlying58 rowEr Tryd.underlying117 Tryd.underlying119 rfl rfl Tryd.underlying9 cellsEr cellsSt
    exact ⟨_, _, by have h0 := World.var?_cell gRan hv 0; simpa using h0⟩
end Go.Proofs.YtdlepeogmjmleaaDoor
/-
  Own text. Addresses and numbers as arguments.
-/
namespace Go.Proofs.YtdlepeogmjmleaaDoor
open Go.ChangeShapes Go.WideShapes Go.ChangeAt Go.WideMaps Go.WideElems Go.RowKit Go.Proofs
set_option maxRecDepth 100000
theorem laid12 : laidOutB Tryd.prog = true := by kernel_rfl
theorem cells8 : Tryd.prog.cellsOf 5 = 1 := by kernel_rfl
theorem tk1 {cs : List Value} {o : Nat} {x : Value} (h : (cs.drop o).take 1 = [x]) : cs[o]? = some x := by
  have h1 : ((cs.drop o).take 1)[0]? = some x := by rw [h]; rfl
  rw [List.getElem?_take, if_pos (by omega), List.getElem?_drop] at h1
  simpa using h1
theorem tkN {cs : List Value} {o n i : Nat} (hi : i < n) : ((cs.drop o).take n)[i]? = cs[o + i]? := by
  rw [List.getElem?_take, if_pos hi, List.getElem?_drop]
theorem sc_list {cs : List Value} {n : Nat} {V : Nat → Value} (hl : cs.length = n) (h : ∀ i, i < n → cs[i]? = some (V i)) : cs = (SC n V).toList := by
  apply List.ext_getElem?
  intro i
  by_cases hi : i < n
  · rw [h i hi, Array.getElem?_toList, SC_get n V i hi]
  · rw [List.getElem?_eq_none (by omega), List.getElem?_eq_none (by rw [Array.length_toList, SC_size]; omega)]
section
variable {H : Type} {enc : TypeId × Value → H} {w : World} {base : Nat} {sp : Nat → Bool} {held : Bool} {fuel : Nat} {cs : List Value} {x : DataW H × List MemPlace}
theorem trod_16 (h : DataW.trod enc Tryd.prog w base sp held fuel 22 cs = some x) : ∃ b, Byts 16 b ∧ (∀ i, i < 16 → cs[i]? = some (.int .u8 (b i))) ∧ x.2 = [] := by
  obtain ⟨xs, m, _, hx, _, hl, hel⟩ := DataW.trod_array Tryd.underlying22 h
  have key : ∀ i, i < 16 → ∃ k : Int, cs[i]? = some (.int .u8 k) ∧ (0 ≤ k ∧ k < 256) ∧ ∃ dd, xs[i]? = some (dd, []) := fun i hi => by
    have hi' := hel i hi
    rw [cells8, Nat.mul_one] at hi'
    have hxs : i < xs.length := by omega
    rw [List.getElem?_eq_getElem hxs] at hi'
    obtain ⟨k, e1, e2, wk⟩ := DataW.trod_int Tryd.underlying5 hi'
    have := bounds_u8 wk
    exact ⟨k, tk1 e1, by omega, ⟨_, by rw [List.getElem?_eq_getElem hxs, e2]⟩⟩
  refine ⟨fun i => match cs[i]? with | some (.int .u8 k) => k | _ => 0, fun i hi => ?_, fun i hi => ?_, ?_⟩
  · obtain ⟨k, e, hk, _⟩ := key i hi
    simp only [e]
    exact hk
  · obtain ⟨k, e, hk, _⟩ := key i hi
    simp only [e]
  · rw [hx]
    show xs.flatMap (·.2) = []
    apply List.flatMap_eq_nil_iff.2
    intro y hy
    obtain ⟨i, hi, rfl⟩ := List.getElem_of_mem hy
    obtain ⟨_, _, _, dd, e⟩ := key i (by omega)
    rw [List.getElem?_eq_getElem hi] at e
    rw [Option.some.inj e]
theorem adF : ∃ f0 f1 : Field, Tryd.prog.underlying 24 = some (.struct #[f0, f1]) ∧ f0.type = 4 ∧ f1.type = 22 ∧ f0.offset = 0 ∧ f1.offset = 1 := ⟨_, _, Tryd.underlying24, rfl, rfl, rfl, rfl⟩
theorem cAd : Tryd.prog.cellsOf 24 = 17 := by kernel_rfl
theorem cBo : Tryd.prog.cellsOf 4 = 1 := by kernel_rfl
theorem cIn : Tryd.prog.cellsOf 3 = 1 := by kernel_rfl
theorem c16 : Tryd.prog.cellsOf 22 = 16 := by kernel_rfl
theorem trod_ad (h : DataW.trod enc Tryd.prog w base sp held fuel 24 cs = some x) : ∃ v b, Byts 16 b ∧ cs.length = 17 ∧ (∀ i, i < 17 → cs[i]? = some (adV v b i)) ∧ x.2 = [] := by
  obtain ⟨f0, f1, hu, e0, e1, o0, o1⟩ := adF
  obtain ⟨y0, y1, n, hx, hl, h0, h1⟩ := trod_struct2 hu h
  rw [e0, o0, cBo] at h0
  rw [e1, o1, c16] at h1
  obtain ⟨v, hv, hv2⟩ := DataW.trod_bool Tryd.underlying4 h0
  obtain ⟨b, hb, hbs, hb2⟩ := trod_16 h1
  rw [cAd] at hl
  refine ⟨v, b, hb, hl, fun i hi => ?_, by rw [hx, hv2, hb2]; rfl⟩
  by_cases e : i < 1
  · obtain rfl : i = 0 := by omega
    exact tk1 hv
  · have := hbs (i - 1) (by omega)
    rw [tkN (by omega), show 1 + (i - 1) = i by omega] at this
    rw [this]
    unfold adV
    rw [if_neg e]
end
section
variable {H : Type} {enc : TypeId × Value → H} {W : World} {base : Nat} {sp : Nat → Bool} {v : Value} {d : DataW H} {p : List MemPlace}
/-- An argument that is an address. -/
theorem open_ad (hv : Value.okWide Tryd.prog W .any base 24 v) (h : DataW.Trod enc Tryd.prog W 0 sp true 24 v d p) : ∃ u b, Byts 16 b ∧ v = .agg (SC 17 (adV u b)) ∧ p = [] := by
  obtain ⟨cs, rfl, hsz, _⟩ : ∃ cs, v = .agg cs ∧ cs.size = Tryd.prog.cellsOf 24 ∧ Row.okWide Tryd.prog W .any base 24 cs := by
    simpa [Value.okWide, Tryd.underlying24] using hv
  obtain ⟨fuel, hf⟩ := h
  obtain ⟨u, b, hb, hl, hc, hp⟩ := trod_ad hf
  have e2 : cs.toList = (SC 17 (adV u b)).toList := sc_list hl hc
  exact ⟨u, b, hb, congrArg Value.agg (Array.toList_inj.1 e2), hp⟩
end
end Go.Proofs.YtdlepeogmjmleaaDoor
