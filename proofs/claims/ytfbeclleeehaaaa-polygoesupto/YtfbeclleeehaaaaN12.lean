/-
  Own text. What add of package poly does to a MAC: a contract over the translation.
-/
import Derived.Test.YtfbeclleeehaaaaN11
namespace Go.Proofs.Ytfbeclleeehaaaa
open Go.RowKit Go.Proofs
theorem take_nums (s : ByteArray) (m : Nat) (h : m ≤ s.size) : List.take m (s.data.toList.map fun x => Value.int .u8 (x.toNat : Int)) = nums .u8 m (txt s) := by
  apply List.ext_getElem?
  intro i
  by_cases hi : i < m
  · have h2 : i < s.data.toList.length := by have : s.data.size = s.size := rfl; simp; omega
    rw [List.getElem?_take, if_pos hi, nums_at .u8 m (txt s) hi, List.getElem?_map, List.getElem?_eq_getElem h2]
    unfold txt
    rw [List.getD_eq_getElem?_getD, List.getElem?_eq_getElem h2]
    rfl
  · rw [List.getElem?_eq_none (by simp; omega), List.getElem?_eq_none (by rw [nums_len]; omega)]
/-- A text's bytes into what a MAC holds of a block. -/
theorem copy_mac {w : World} {b h m dC : Nat} {R S Z H : Nat → Int} {l : Int} (ty : TypeId) (t : ByteArray) (gm : MacAt w b R S Z H l) (hh : h < 16) (hm : m = min t.size (16 - h)) :
    (Builtin.copy_ #[36, 9] ty #[.slice (some ⟨b, 12 + h, none⟩) (16 - h) dC, .string t]).run Try.prog w = .ok (goInt m) (w.setCells b (12 + h) (nums .u8 m (txt t))) := by
  have hmin : Nat.min t.size (16 - h) = m := hm.symm
  have hst := run_storeCells_cells (P := Try.prog) b (12 + h) (nums .u8 m (txt t)) 0 w (by
      intro j hj
      rw [nums_len] at hj
      rw [Nat.add_zero, gm.at _ (by omega)]
      rfl) (fun j _ => gm.free _) nums_one
  simp [Builtin.copy_, run_underlying Try.underlying36, Builtin.lenOf, Builtin.firstCells, hmin]
  rw [take_nums t m (by omega), hst]
  rfl
theorem act_cpm {o : Oper} {a : Act} {w : World} {K : Act → World → Prop} {Q : Exit → Act → World → Prop} {d s' : Operand} (ho : o.op = .call { callee := .builtin .copy, args := #[d, s'], argTypes := #[36, 9] })
    {b h m dC : Nat} {R S Z H : Nat → Int} {l : Int} {t : ByteArray} (hd : a.eval d = .slice (some ⟨b, 12 + h, none⟩) (16 - h) dC) (hs : a.eval s' = .string t) (gm : MacAt w b R S Z H l) (hh : h < 16) (hm : m = min t.size (16 - h))
    (hK : ∀ w', MacAt w' b R S Z (over H h m (txt t)) l → Only b w w' → K (a.put o.dst (.int .i64 (m : Int))) w') : o.wp Try.prog a w K Q := by
  have hrun := copy_mac (dC := dC) o.type t gm hh hm
  have h2 := gm.setRest h m (txt t) (by omega)
  unfold Oper.wp
  simp [execOp, ho, resolve, invoke, builtin, hd, hs, hrun, Result.andThen]
  exact hK _ h2.1 h2.2
theorem len16 : Try.prog.arrayLen 23 = 16 := by kernel_rfl
theorem sizeB16 (w : World) : (sizeOf (Try.prog.elem 23)).run Try.prog w = .ok 1 w := by kernel_rfl
theorem sl16m (b l : Nat) (w : World) (hl : l < 16) : (Instr.sliceAt 23 (.pointer (some ⟨b, 12, none⟩)) (some (.int .i64 (l : Int))) none none).run Try.prog w = .ok (.slice (some ⟨b, 12 + l, none⟩) (16 - l) (16 - l)) w := by
  rw [run_sliceAt_array_l (P := Try.prog) w 23 ⟨b, 12, none⟩ Try.underlying23 .i64 (l : Int) (by omega) (by rw [len16]; omega), sizeB16, len16]
  simp only [Result.andThen_ok, slicedAt, Int.toNat_natCast, Nat.mul_one]
  rw [if_neg (by omega), Addr.add_lit]
theorem sl16h (b l : Nat) (w : World) (hl : l ≤ 16) : (Instr.sliceAt 23 (.pointer (some ⟨b, 12, none⟩)) none (some (.int .i64 (l : Int))) none).run Try.prog w = .ok (.slice (some ⟨b, 12, none⟩) l 16) w := by
  rw [run_sliceAt_array_h (P := Try.prog) w 23 ⟨b, 12, none⟩ Try.underlying23 .i64 (l : Int) (by omega) (by rw [len16]; omega), len16]
  simp only [sizeB16, Result.andThen_ok, slicedAt]
  rw [if_neg (by omega), Addr.add_lit]
  rfl
theorem st_sum {ops : Array Oper} {rest : List Oper} {d : Option Tmp} {x y : Operand} {t : TypeId} {ps : String} {af : Array Edge} {a : Act} {w : World} {Q : Exit → Act → World → Prop} {b : Nat} {R S Z H z : Nat → Int} {l : Int}
    (gm : MacAt w b R S Z H l) (hx : a.eval x = .pointer (some ⟨b, 7, none⟩)) (hy : a.eval y = .agg (WA .u64 5 z)) (h : ∀ w2, MacAt w2 b R S z H l → Only b w w2 → wpList Try.prog ops Q rest (a.put d undef) w2) :
    wpList Try.prog ops Q ({ dst := d, op := .store 40 x y, type := t, pos := ps, after := af, guard := none } :: rest) a w := by
  obtain ⟨_, _, _, h3⟩ := isL
  have h2 := gm.setSum z
  exact wpList_store_mid rfl 40 x y rfl b 7 (WA .u64 5 z) hx hy (fun j hj => by rw [WA_size] at hj; exact ⟨by rw [gm.at (7 + j) (by omega)]; rfl, gm.free _⟩) (by rw [WA_size]; exact h3) (WA_one .u64 5 z) (h _ h2.1 h2.2)
set_option maxHeartbeats 8000000 in
set_option maxRecDepth 100000 in
theorem add_run (b : Nat) (key f : Nat → Int) (n : Nat) (s : ByteArray) (w : World) (hM : MacN w b key f n) :
    Calls Try.prog 19 #[.pointer (some ⟨b, 0, none⟩), .string s] w fun e w' => e = .returned (.tuple #[]) ∧ MacN w' b key (cat n f (txt s)) (n + s.size) ∧ Touch (fun x => x = b) w w' := by
  replace hM := hM.congr (f' := cat n f (txt s)) (fun i hi => by unfold cat; rw [if_pos hi])
  have hE : ∀ j, cat n f (txt s) (n + j) = txt s j := fun j => by unfold cat; rw [if_neg (by omega), Nat.add_sub_cancel_left]
  generalize cat n f (txt s) = g at *
  have HE := Hid.mk hE
  clear hE
  go_enter Try.func19, Try.ntmps19
  go_wp2_with fail
  go_loopg [1] s.size (fun gm pv v => ∃ k : Nat, Hid (gm + k = s.size) ∧ pv = .string (s.extract k s.size) ∧ MacN v b key g (n + k) ∧ Touch (fun x => x = b) w v)
  case atStart => exact ⟨0, Hid.mk rfl, by simp, hM, Touch.refl _ _⟩
  case round =>
    clear hM
    obtain ⟨k, HK, rfl, hM, ht⟩ := hrel
    have hks : k ≤ s.size := by have := HK.out; omega
    have hsz := extract_size s k
    obtain ⟨t, ht0⟩ : ∃ t, s.extract k s.size = t := ⟨_, rfl⟩
    have HT : Hid (∀ j, k + j < s.size → txt t j = g (n + k + j)) := Hid.mk (fun j hj => by rw [← ht0, txt_extract s k j hj, Nat.add_assoc, HE.out])
    rw [ht0] at hsz
    rw [ht0]
    by_cases hkl : k < s.size
    · obtain ⟨R, S, Z, H, gm, hst⟩ := hM
      obtain ⟨h, hh⟩ : ∃ h, (n + k) % 16 = h := ⟨_, rfl⟩
      rw [hh] at gm
      have HST := Hid.mk hst
      clear hst
      have HH : Hid (h < 16) := Hid.mk (by omega)
      obtain ⟨m, hm⟩ : ∃ m, m = min t.size (16 - h) := ⟨_, rfl⟩
      have hpos : (0 : Int) < (t.size : Int) := by omega
      have hsl := fun v => sl16m b h v (by omega)
      have hcp2 := copy_mac (dC := 16 - h) 3 t gm.drew (by omega) hm
      have hch := gm.held
      have hset := gm.drew.setRest h m (txt t) (by omega)
      have HX : Hid (t.extract m t.size = s.extract (k + m) s.size) := Hid.mk (by
        have h1 : (t.extract m t.size).size = s.size - (k + m) := by rw [extract_size]; omega
        have h2 := extract_size s (k + m)
        rw [← mkS_txt (t.extract m t.size), ← mkS_txt (s.extract (k + m) s.size), h1, h2]
        refine mkS_congr (fun j hj => ?_)
        rw [txt_extract t m j (by omega), txt_extract s (k + m) j (by omega), ← ht0, txt_extract s k (m + j) (by omega), Nat.add_assoc])
      have HO : Hid (∀ j, j < h + m → over H h m (txt t) j = g (16 * ((n + k) / 16) + j)) := Hid.mk (fun j hj => by
        unfold over
        split
        · rw [HT.out (j - h) (by omega)]
          congr 1
          omega
        · exact HST.out.he j (by omega))
      have HB : Hid (Byts 16 (over H h m (txt t))) := Hid.mk (fun i hi => by
        unfold over
        split
        · exact txt_b t _
        · exact HST.out.hb i hi)
      have hmt : (m : Int) ≤ (t.size : Int) := by omega
      have hm1 : 1 ≤ m ∧ k + m ≤ s.size ∧ h + m ≤ 16 := by omega
      have hwr := i64_wrap (n := (h : Int) + (m : Int)) (by omega) (by omega)
      have HZ := Hid.mk hsz
      have HM := Hid.mk hm
      clear hsz hm HT ht0
      generalize gk = gz at *
      go_wp2_with fail
      go_region
      generalize over H h m (txt t) = H' at *
      generalize wr.drew.setCells b (12 + h) (nums .u8 m (txt t)) = v5 at *
      obtain ⟨gm5, o5⟩ := hset
      have ht5 : Touch (fun x => x = b) w v5 := (Touch.drew ht).trans o5.touch
      clear hcp2 hsl o5 gm hch ht
      have hch := gm5.held
      have hcf := gm5.free 28
      have gm6 := gm5.setHeld ((h : Int) + (m : Int))
      have ht6 : Touch (fun x => x = b) w (v5.setCell ⟨b, 28, none⟩ (.int .i64 ((h : Int) + (m : Int)))) := ht5.trans (only_set (g := b) (i := 28)).touch
      by_cases hfull : h + m = 16
      · have hfi : (h : Int) + (m : Int) = 16 := by omega
        have hfd : ((h : Int) + (m : Int) == 16) = true := by simpa using hfi
        rw [hfi] at gm6 ht6
        go_wp2_with fail
        refine (behind_run b 16 16 R S Z H' 16 _ gm6 HST.out.zs HST.out.rd HB.out (Nat.le_refl _)).mono ?_
        rintro e v7 ⟨z, hz, ⟨q, hq⟩, rfl, hb⟩
        have gm7 := gm6.kept hb
        have ht7 := ht6.trans (Below.touch b hb)
        have HQ := Hid.mk (And.intro hz hq)
        clear hb gm6 ht6 gm5 ht5 hch hcf hz hq
        go_wp2_with (refine st_sum gm7 (by rfl) (by rfl) ?_; intro v8 gm8 o8; refine Hid.out ?_)
        have ht8 := ht7.trans o8.touch
        have hcf := gm8.free 28
        have hch := gm8.held
        have gm9 := gm8.setHeld 0
        have ht9 : Touch (fun x => x = b) w (v8.setCell ⟨b, 28, none⟩ (.int .i64 0)) := ht8.trans (only_set (g := b) (i := 28)).touch
        clear o8 gm7 ht7
        refine Hid.mk ?_
        go_wp2_with fail
        go_roundg (s.size - (k + m))
        case rel => exact ⟨k + m, Hid.mk (by omega), congrArg Value.string HX.out, ⟨R, S, z, H', by rw [show ((((n + (k + m)) % 16 : Nat)) : Int) = 0 by omega]; exact gm9, by rw [← Nat.add_assoc]; exact HST.out.full (by omega) HB.out (fun j hj => HO.out j (by omega)) HQ.out.1 HQ.out.2⟩, ht9⟩
        case measure => have := HK.out; omega
      · have hfi : ¬ ((h : Int) + (m : Int) = 16) := by omega
        have hfd : ((h : Int) + (m : Int) == 16) = false := by simpa using hfi
        go_wp2_with fail
        go_roundg (s.size - (k + m))
        case rel => exact ⟨k + m, Hid.mk (by omega), congrArg Value.string HX.out, ⟨R, S, Z, H', by rw [show ((((n + (k + m)) % 16 : Nat)) : Int) = (h : Int) + (m : Int) by omega]; exact gm6, by rw [← Nat.add_assoc]; exact HST.out.part (by omega) HB.out (by rw [hh]; exact HO.out)⟩, ht6⟩
        case measure => have := HK.out; omega
    · have hk2 : k = s.size := by omega
      subst hk2
      have hz0 : t.size = 0 := by omega
      go_wp2_with fail
      go_end0
      exact ⟨rfl, hM, ht⟩
end Go.Proofs.Ytfbeclleeehaaaa
