/-
  Own text. What carried of the document's answer gives, for all digits that are not too great: a contract over the translation.
-/
import Derived.Test.YtgklkkjhoecdoaaDoorK5
namespace Go.Proofs.YtgklkkjhoecdoaaDoor
open Go.RowKit Go.Proofs
theorem cell_one (w : World) (d : Int) : (w.alloc (.cells #[.int .i64 d] 3)).cell? ⟨w.heap.size, 0, none⟩ = some (.int .i64 d) := by simp
theorem szb {w : World} {B g cap : Nat} {ds : List Int} {o : Obj} (h : Dig w B g cap ds) : B ≤ (w.alloc o).heap.size := by
  have h1 := h.lt
  have h2 := h.raw.1
  simp; omega
def lenOf : Value → Nat
  | .slice _ n _ => n
  | _ => 0
set_option maxHeartbeats 1000000 in
set_option maxRecDepth 100000 in
theorem carried_any (B b cap : Nat) (ds : List Int) (w : World) (hD : Dig w B b cap ds) (hd : Dgs 4398046511104 ds) (hl : ds.length ≤ 44) (hv : val ds < 65536 ^ 44) :
    Calls Tryd.prog 43 #[.slice (some ⟨b, 0, none⟩) ds.length cap] w fun e w' => ∃ g c es, e = .returned (.slice (some ⟨g, 0, none⟩) es.length c) ∧ Cared ds es ∧ Dig w' w.heap.size g c es ∧ Below w.heap.size w w' := by
  obtain ⟨i0, hi, hz0, hz1, hz2⟩ := info_parts infoInt
  have HD := Hid.mk hd
  have HV := Hid.mk hv
  have hb := hD.lt
  clear hd hv
  go_enter Tryd.func43, Tryd.ntmps43
  go_wp2_with (at_make; refine wpList_make_own _ rfl _ _ 43 rfl w.heap.size 3 i0 (.int .i64 0) 1 Tryd.underlying43 hi hz0 hz1 _ _ _ (ds.length + 4) rfl rfl (by omega) (by rw [hz2]; omega) (by unfold maxLen; omega) (Nat.le_refl _) ?_; intro w1 hown hgrow)
  have hd1 : Dig w1 w.heap.size w.heap.size (ds.length + 4) [] := hown
  have hB1 : Below w.heap.size w w1 := Below.grow hgrow (Nat.le_refl _) (fun k hk => by cases hk)
  clear hown hgrow
  go_loopw [3, 4, 5] (fun v c i wr => ∃ (k : Nat) (c' : Int) (es : List Int) (g cp : Nat), v = .slice (some ⟨g, 0, none⟩) es.length cp ∧ c = .int .i64 c' ∧ i = .int .i64 k ∧ Car ds k c' es ∧ Dig wr w.heap.size g cp es ∧ Below w.heap.size w wr) (fun _ _ i _ => 44 - (intOf i).toNat)
  case atStart => exact ⟨0, 0, [], _, _, rfl, rfl, rfl, Car.start ds, hd1, hB1⟩
  case round =>
    clear hd1 hB1
    obtain ⟨k, c', es, g, cp, rfl, rfl, rfl, car, hdg, hB⟩ := hrel
    have hk44 := car.k44
    have hc0 := car.c0
    have hc1 := car.c1
    have hel := car.len
    have HEL := Hid.mk hel
    have hls : es.length < 1000000 := by omega
    clear hel
    by_cases hlt : k < ds.length
    · have cx := (hD.below hB hb).cell k hlt
      have hx := HD.out.at (by omega) k
      have hx0 := hx.1
      have hx1 := hx.2
      clear hx
      have CS := Hid.mk (car.step HD.out hl hlt)
      clear car
      generalize ds.getD k 0 = x at *
      go_wp2_with (at_builtin; refine ap_dig rfl (.tmp 30) (.tmp 33) rfl rfl (hdg.alloc _) wr.heap.size ((c' + x) % 65536) rfl (cell_one _ _) hls (szb hdg) ?_; intro g' cp' w2 hdg' hb2)
      go_roundw
      case rel => exact ⟨k + 1, _, _, g', cp', by simp, rfl, by go_num, CS.out, hdg', Below.trans (hB.alloc hB.size _) hb2⟩
      case measure => simp [intOf]; omega
    · by_cases hc : 0 < c'
      · have CS := Hid.mk (car.over HV.out (by omega) hc)
        clear car
        have h44 : k < 44 := by have := CS.out.k44; omega
        go_wp2_with (at_builtin; refine ap_dig rfl (.tmp 30) (.tmp 33) rfl rfl (hdg.alloc _) wr.heap.size (c' % 65536) rfl (cell_one _ _) hls (szb hdg) ?_; intro g' cp' w2 hdg' hb2)
        go_roundw
        case rel => exact ⟨k + 1, _, _, g', cp', by simp, rfl, by go_num, CS.out, hdg', Below.trans (hB.alloc hB.size _) hb2⟩
        case measure => simp [intOf]; omega
      · have hc2 : c' = 0 := by omega
        subst hc2
        have pad := car.done (by omega)
        clear car hk44 hc0 hc1 HEL hls hc
        go_wp2
        go_loopw [3] (fun v wr => ∃ (es : List Int) (g cp : Nat), v = .slice (some ⟨g, 0, none⟩) es.length cp ∧ Pad ds es ∧ Dig wr w.heap.size g cp es ∧ Below w.heap.size w wr) (fun v _ => 16 - lenOf v)
        case atStart => exact ⟨es, g, cp, rfl, pad, hdg, hB⟩
        case round =>
          clear pad hdg hB
          obtain ⟨es, g, cp, rfl, pad, hdg, hB⟩ := hrel
          by_cases h16 : es.length < 16
          · have PS := Hid.mk (pad.zero h16)
            clear pad
            go_wp2_with (at_builtin; refine ap_dig rfl (.tmp 40) (.tmp 41) rfl rfl (hdg.alloc _) wr.heap.size 0 rfl (cell_one _ _) (by omega) (szb hdg) ?_; intro g' cp' w2 hdg' hb2)
            go_roundw
            case rel => exact ⟨_, g', cp', by simp, PS.out, hdg', Below.trans (hB.alloc hB.size _) hb2⟩
            case measure => simp [lenOf]; omega
          · have PS := Hid.mk (pad.done (by omega))
            clear pad
            go_wp2
            go_ret
            exact ⟨g, cp, es, rfl, PS.out, hdg, hB⟩
end Go.Proofs.YtgklkkjhoecdoaaDoor
