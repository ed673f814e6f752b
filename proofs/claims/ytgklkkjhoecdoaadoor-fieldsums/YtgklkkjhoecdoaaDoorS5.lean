/-
  Own text. PROVED: called with any slice of values of 32 bytes each, in whatever memory in which the package variable 'prime' holds what the program's own text lays into it, the law FieldSums returns true and leaves its argument as it was. Conditions: the row's own (the tied variable 'prime'; each slice takes at most the bytes that the form's standing sentence says), no other.
-/
import Derived.Test.YtgklkkjhoecdoaaDoorS4
import Derived.Test.YtgklkkjhoecdoaaDoorL1
import Derived.Deep.Slices
import Derived.SizedLaws
namespace Go.Proofs.YtgklkkjhoecdoaaDoor
open Go.Deep Go.ChangeShapes Go.WideShapes Go.ChangeAt Go.WideMaps Go.WideElems Go.RowKit Go.Proofs
theorem rowsT_rec : Tryd.prog.readableRec 22 = true := by kernel_rfl
theorem rowsT_row : 22 < Tryd.prog.types.size := of_decide_eq_true (by kernel_rfl)
theorem bytes24 : Tryd.prog.bytesOf 24 = 32 := by kernel_rfl
/-- 32 cells that read as 32 bytes are a number's. -/
theorem open_cells {H : Type} {enc : TypeId × Value → H} {W : World} {sp : Nat → Bool} {fuel : Nat} {cs : List Value} {x : DataW H × List MemPlace} (hl : cs.length = 32)
    (hf : DataW.trod enc Tryd.prog W 0 sp true fuel 24 cs = some x) : ∃ n, N256 n ∧ cs = (BA n).toList := by
  obtain ⟨xs, m, _, hx, _, hlx, hel⟩ := DataW.trod_array Tryd.underlying24 hf
  have key : ∀ i, i < 32 → ∃ k : Int, cs.toArray[i]? = some (.int .u8 k) ∧ Byte k := fun i hi => by
    have hi' := hel i hi
    rw [cells5] at hi'
    have hxs : i < xs.length := by omega
    rw [List.getElem?_eq_getElem hxs] at hi'
    obtain ⟨k, e1, e2, wk⟩ := DataW.trod_int Tryd.underlying5 hi'
    have hci : i < cs.length := by omega
    have e3 : (List.take 1 (List.drop (i * 1) cs)) = [cs[i]] := by
      rw [Nat.mul_one, List.drop_eq_getElem_cons hci, List.take_succ_cons, List.take_zero]
    rw [e3] at e1
    simp only [List.cons.injEq, and_true] at e1
    exact ⟨k, by simp [hci, e1], bytes_wf wk⟩
  obtain ⟨n, hn, hb⟩ := BA_of_bytes cs.toArray (fun i => match cs.toArray[i]? with | some (.int .u8 k) => k | _ => 0) (by simpa using hl) (fun i hi => by
    obtain ⟨k, e, hk⟩ := key i hi
    simp only [e]
    exact ⟨trivial, hk⟩)
  exact ⟨n, hn, by rw [← hb]⟩
/-- A slice of 32 bytes each, as an argument, holds numbers. -/
theorem open_rows {H : Type} {enc : TypeId × Value → H} {W : World} {base : Nat} {v : Value} {d : DataW H} {p : List MemPlace} (hv : Value.okWide Tryd.prog W .any base 22 v)
    (h : DataW.Trod enc Tryd.prog W 0 (fun _ => true) true 22 v d p) :
    ∃ ns, View W v ns ∧ (∀ n ∈ ns, N256 n) ∧ (ns = [] ∨ ∃ elems spare, d = .slice elems spare ∧ elems.length = ns.length) := by
  obtain ⟨a, len, cap, rfl⟩ := okWide_slice Tryd.underlying22 hv
  obtain ⟨fuel, hf⟩ := h
  rcases open_slice Tryd.underlying22 hf with ⟨hcs, hx⟩ | ⟨ad, len', cap', m, n, D, Pl, hcs, _, hl, hm, hmm, hx, hel⟩
  · simp [Value.cells] at hcs
    obtain ⟨rfl, rfl, rfl⟩ := hcs
    exact ⟨[], .inl ⟨rfl, none, 0, rfl, fun _ => rfl⟩, fun n hn => by simp at hn, .inl rfl⟩
  · simp [Value.cells] at hcs
    obtain ⟨rfl, rfl, rfl⟩ := hcs
    simp only [if_true] at hmm
    simp only [Prod.mk.injEq] at hx
    have each : ∀ i, i < len → ∃ n : Int, N256 n ∧ ∀ j u, (BA n).toList[j]? = some u → W.cell? ((ad.add (i * 32)).add j) = some u := fun i hi => by
      obtain ⟨cs', hc, ht⟩ := hel i (by omega)
      rw [cells24] at hc
      obtain ⟨_, hcl, hcells⟩ := World.cells?_some hc
      obtain ⟨n, hn, rfl⟩ := open_cells hcl ht
      exact ⟨n, hn, fun j u hu => by
        have hj := (List.getElem?_eq_some_iff.1 hu).1
        rw [Array.length_toList, BA_size] at hj
        rw [hcells j hj, hu]⟩
    obtain ⟨f, hff⟩ := choose_lt each
    have hnl : ((List.range len).map f).length = len := by simp
    refine ⟨(List.range len).map f, ?_, fun n hn => ?_, .inr ⟨_, _, hx.1, by simp⟩⟩
    · by_cases h0 : len = 0
      · subst h0
        exact .inl ⟨rfl, some ad, cap, rfl, fun h => by cases h⟩
      · obtain ⟨b, off, spot⟩ := ad
        have hc0 := (hff 0 (by omega)).2 0 _ (by rw [Array.getElem?_toList]; exact BA_get _ 0 (by omega))
        rw [Nat.zero_mul] at hc0
        have hsp := World.cell?_spot hc0
        have hbl := World.block_lt_of_cell? W _ hc0
        simp only [Addr.add, if_true] at hsp hbl
        subst hsp
        refine .inr ⟨by omega, b, off, cap, by rw [hnl], fun k hk j u hu => ?_, hbl, by omega⟩
        rw [hnl] at hk
        have e : ((List.range len).map f).getD k 0 = f k := by simp [List.getD, hk]
        rw [e] at hu
        have := (hff k hk).2 j u hu
        rwa [Addr.add_mid, Addr.add_mid] at this
    · obtain ⟨i, hi, rfl⟩ := List.mem_map.1 hn
      exact (hff i (List.mem_range.1 hi)).1
set_option maxRecDepth 100000 in
theorem fieldSums_lifted (os : Os) (started : os.Started) (H : Type) (enc : TypeId × Value → H) :
    ReturnsInHanded {} Tryd.checked os 3 .any (fun w args => (Rows.fieldSumsSpec.pre enc Tryd.prog Tryd.f3 [] false w args ∧ laidMetH Tryd.prog laidP w) ∧ sizedMet enc Tryd.prog Tryd.f3 (OpenSpec.ofChange Rows.fieldSumsSpec) false w args)
      (Rows.fieldSumsSpec.post enc Tryd.prog Tryd.f3 false true false false) := by
  refine returnsInHanded_of_change_and (C := Tryd.checked) (X := fun w _ => laidMetH Tryd.prog laidP w) (fun _ _ _ hh h => h.of_heap hh) own started (by kernel_rfl) Tryd.func3
    (ChangeSpec.witness_shaped (enc := enc) (C := Tryd.checked) (os := os) (X := fun w _ => laidMetH Tryd.prog laidP w) false (World.doorLaid Tryd.prog 400 os) #[.slice none 0 0] 8 rfl (World.shaped_of_RefB (by kernel_rfl) (by kernel_rfl)) (by kernel_rfl) (by kernel_rfl) (by kernel_rfl) (door_met os _)) ?_
  intro W base args ds gs before hval0 hW _ hsz0 hL _
  have hval : ∀ (j : Nat) t v, Tryd.f3.params[j]? = some t → args[j]? = some v → Value.okWide Tryd.prog W .any base t v := hval0
  have hW' := hW
  obtain ⟨p, q, hA0, hV, rfl, hfz, hnd⟩ := hW
  have hA : DataW.TrodAll enc Tryd.prog W 0 (fun _ => true) true Tryd.f3.params.toList args.toList ds p := hA0
  rw [Tryd.params3] at hA hval
  obtain ⟨v0, d0, rfl, rfl, h0⟩ := trodAll_one hA
  obtain ⟨rfl, rfl⟩ := trodVars_none hV
  obtain ⟨ns, hview, hns, hd⟩ := open_rows (hval 0 22 v0 rfl rfl) h0
  have hlen : ns.length * 32 ≤ 140737488351232 := by
    rcases hd with rfl | ⟨elems, spare, rfl, he⟩
    · simp
    · have hsz : (DataW.weightsEach Tryd.prog (Tryd.f3.params.toList ++ Rows.fieldSumsSpec.plain.varTypes Tryd.prog) ([.slice elems spare] ++ [])).all (· ≤ reachBytes) = true := hsz0
      rw [Tryd.params3] at hsz
      have := sized_slice hsz (j := 0) (t := 22) (e := 24) rfl rfl Tryd.underlying22
      rw [bytes24] at this
      unfold reachBytes at this
      omega
  clear hA0 hval0
  simp only [List.append_nil] at hW'
  refine (sums_walk v0 ns W (prime_of_laid hL) hview hns hlen).mono fun r W' ⟨he, hb⟩ => ?_
  subst he
  refine ⟨_, rfl, _, _, _, [], p, [], hW', trodAll_mk1 (shut_bool Tryd.underlying4 true), ?_, rfl, hb.frame _, fun h => by cases h⟩
  exact trodAll_mk1 (Below.trod laidOut rowsT_rec rowsT_row h0 hb (fun x hx => by simpa using hW'.lt x hx))
theorem fieldSums_row : Rows.FieldSumsSaid :=
  OpenClaim.holds_of_wide 3 Tryd.f3 rfl rfl rfl rfl rfl rfl rfl ⟨rfl, rfl, rfl, rfl, rfl⟩ rfl rfl rfl rfl rfl (by kernel_rfl) Tryd.func3 (by kernel_rfl)
    (of_decide_eq_true (by kernel_rfl)) (by unfold Func.isWrapper; first | (rw [if_pos (by decide +kernel)]; kernel_rfl) | (rw [if_neg (by decide +kernel)]; exact ⟨rfl, rfl⟩))
    (fun os started H enc _ => fieldSums_lifted os started H enc)
theorem fieldSums_holds : Rows.FieldSumsCardSaid :=
  Claim7.holds_tied_plain_at .later [] [.data] true (true, "eb5bf380fb2e1834df9b65ffe5c6e6f0a2415900792271faf49adc8efc496855") false
    fieldSums_row (fun _ h => by cases h) (by kernel_rfl) (fun _ h => by cases h) fieldSums_row_tie rfl ⟨rfl, rfl⟩ (by kernel_rfl) rfl
    (fun f fn hf hfn => by
      obtain rfl : f = 3 := Option.some.inj ((show Tryd.prog.funcNamed Rows.fieldSumsRow.func = some 3 by kernel_rfl).symm.trans hf) |>.symm
      obtain rfl : fn = Tryd.f3 := (Option.some.inj (Tryd.func3.symm.trans hfn)).symm
      exact ⟨by kernel_rfl, fun j t ht => by
        rw [Tryd.params3] at ht
        have hm : t ∈ [22] := by simpa using Array.mem_of_getElem? ht
        have hall : ([22].all fun u => !Tryd.prog.wantsStandIn u) = true := by kernel_rfl
        exact (show Tryd.prog.wantsStandIn t = false by simpa using List.all_eq_true.1 hall t hm)⟩)
    (by kernel_rfl)
end Go.Proofs.YtgklkkjhoecdoaaDoor
