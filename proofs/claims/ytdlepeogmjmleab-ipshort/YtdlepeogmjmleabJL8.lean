/-
  Own text. IpApart: no two packets have one text of bytes.
-/
import Derived.Test.YtdlepeogmjmleabJ7
namespace Go.Proofs.Ytdlepeogmjmleab
open Go.RowKit Go.Proofs
set_option maxRecDepth 100000
theorem bld_ways (P : Pk) : (bldE P = 0 ∧ rgtP P = true ∧ fitP P = true) ∨ (bldE P ≠ 0 ∧ bldT P = ByteArray.empty) := by
  cases hR : rgtP P
  · obtain ⟨e1, e2⟩ := bld_no hR
    exact .inr ⟨by rw [e2]; decide, e1⟩
  cases hF : fitP P
  · obtain ⟨e1, e2⟩ := bld_big hR hF
    exact .inr ⟨by rw [e2]; decide, e1⟩
  · exact .inl ⟨bld_yes hR hF, rfl, rfl⟩
set_option maxHeartbeats 8000000 in
theorem apart_walk (P Q : Pk) (v1 v2 : Value) (w : World) (h1 : ExAt w v1 P.exts) (h2 : ExAt w v2 Q.exts) (hP : PkArg P) (hQ : PkArg Q) : Calls Try.prog 5 #[.agg (SC 46 (pkV P v1)), .agg (SC 46 (pkV Q v2))] w fun e w' => e = .returned (.bool true) ∧ Below w.heap.size w w' := by
  have HB1 : Hid (∀ ww, ExAt ww v1 P.exts → Calls Try.prog 7 #[.agg (SC 46 (pkV P v1))] ww fun e w' => e = .returned (.tuple #[.string (bldT P), .int .i64 (bldE P)]) ∧ Below ww.heap.size ww w') := Hid.mk (fun ww h => Build_run P v1 ww h hP.ok hP.len hP.b hP.p)
  have HB2 : Hid (∀ ww, ExAt ww v2 Q.exts → Calls Try.prog 7 #[.agg (SC 46 (pkV Q v2))] ww fun e w' => e = .returned (.tuple #[.string (bldT Q), .int .i64 (bldE Q)]) ∧ Below ww.heap.size ww w') := Hid.mk (fun ww h => Build_run Q v2 ww h hQ.ok hQ.len hQ.b hQ.p)
  have HSA : Hid (∀ ww, ExAt ww v1 P.exts → ExAt ww v2 Q.exts → Calls Try.prog 9 #[.agg (SC 46 (pkV P v1)), .agg (SC 46 (pkV Q v2))] ww fun e w' => e = .returned (.bool (samP P Q)) ∧ Below ww.heap.size ww w') := Hid.mk (fun ww a b => rSame_run P Q v1 v2 ww a b hP.len hQ.len)
  have hv1 := h1.one
  have hv2 := h2.one
  have HWP := Hid.mk (bld_ways P)
  have HWQ := Hid.mk (bld_ways Q)
  have HAP := Hid.mk (fun a b c d => bld_apart hP.ok hQ.ok a b c d)
  clear hP hQ
  generalize bldT P = BT1 at *
  generalize bldE P = E1 at *
  generalize bldT Q = BT2 at *
  generalize bldE Q = E2 at *
  go_enter Try.func5, Try.ntmps5
  go_wp2_with (refine wl_box2P rfl rfl rfl rfl isPk isPk (by rfl) (fun _ => by rfl) ?_; intro g2 g3 u1 hg2 hne p1 q1 hB1; refine Hid.out ?_)
  refine Hid.mk ?_
  go_wp2_with (go_at_call 6; refine (awake_run _).mono ?_; rintro e u2 ⟨rfl, hB2⟩; refine Hid.out ?_)
  refine Hid.mk ?_
  have p2 := p1.kept hB2
  have q2 := q1.kept hB2
  have hBa := hB1.trans (hB2.mono hB1.size)
  have HX1 := Hid.mk (h1.kept hBa)
  have HX2 := Hid.mk (h2.kept hBa)
  clear p1 q1 hB1 hB2 h1 h2
  go_wp2_with (first | (refine wl_value rfl (look_st rfl isPk p2 (by rfl)) ?_) | (go_at_call 7; refine (HB1.out _ HX1.out).mono ?_; rintro e u3 ⟨rfl, hB3⟩; refine Hid.out ?_))
  refine Hid.mk ?_
  have p3 := p2.kept hB3
  have q3 := q2.kept hB3
  have HX13 := Hid.mk (HX1.out.kept hB3)
  have HX23 := Hid.mk (HX2.out.kept hB3)
  have hBb := hBa.trans (hB3.mono hBa.size)
  clear p2 q2 HX1 HX2 hBa hB3 HB1
  go_wp2_with (first | (refine wl_value rfl (look_st rfl isPk q3 (by rfl)) ?_) | (go_at_call 7; refine (HB2.out _ HX23.out).mono ?_; rintro e u4 ⟨rfl, hB4⟩; refine Hid.out ?_))
  refine Hid.mk ?_
  have p4 := p3.kept hB4
  have q4 := q3.kept hB4
  have HX1 := Hid.mk (HX13.out.kept hB4)
  have HX2 := Hid.mk (HX23.out.kept hB4)
  have hBc := hBb.trans (hB4.mono hBb.size)
  clear p3 q3 HX13 HX23 hBb hB4 HB2
  rcases HWP.out with ⟨rfl, r1, f1⟩ | ⟨n1, rfl⟩
  · rcases HWQ.out with ⟨rfl, r2, f2⟩ | ⟨n2, rfl⟩
    · have HEQ := Hid.mk (HAP.out r1 f1 r2 f2)
      clear HWP HWQ HAP r1 r2 f1 f2
      generalize samP P Q = S at *
      go_wp2_with (first | (refine wl_value rfl (look_st rfl isPk p4 (by rfl)) ?_) | (refine wl_value rfl (look_st rfl isPk q4 (by rfl)) ?_) | (go_at_call 9; refine (HSA.out _ HX1.out HX2.out).mono ?_; rintro e u5 ⟨rfl, hB5⟩; refine Hid.out ?_))
      refine Hid.mk ?_
      go_wp2_with (first | (refine wl_value rfl (exec_eqSd (s := BT1) (t := BT2) rfl (by rfl) (by rfl)) ?_) | (refine wl_value rfl (exec_eqBt (m := decide (BT1 = BT2)) (n := S) HEQ.out rfl (by rfl) (by rfl)) ?_))
      go_ret
      exact ⟨rfl, hBc.trans (hB5.mono hBc.size)⟩
    · have hb2 : (E2 == 0) = false := beq_false_of_ne n2
      have hn2 : (E2 != 0) = true := bne_iff_ne.2 n2
      clear HWP HWQ HAP r1 f1
      go_wp2_with (refine wl_value rfl (exec_eqT (s := ByteArray.empty) (t := ByteArray.empty) rfl rfl (by rfl) (by rfl)) ?_)
      go_ret
      exact ⟨rfl, hBc⟩
  · have hb1 : (E1 == 0) = false := beq_false_of_ne n1
    have hn1 : (E1 != 0) = true := bne_iff_ne.2 n1
    rcases HWQ.out with ⟨rfl, r2, f2⟩ | ⟨n2, rfl⟩
    · clear HWP HWQ HAP r2 f2
      go_wp2_with (refine wl_value rfl (exec_eqT (s := ByteArray.empty) (t := ByteArray.empty) rfl rfl (by rfl) (by rfl)) ?_)
      go_ret
      exact ⟨rfl, hBc⟩
    · have hb2 : (E2 == 0) = false := beq_false_of_ne n2
      have hn2 : (E2 != 0) = true := bne_iff_ne.2 n2
      clear HWP HWQ HAP
      go_wp2_with (refine wl_value rfl (exec_eqT (s := ByteArray.empty) (t := ByteArray.empty) rfl rfl (by rfl) (by rfl)) ?_)
      go_ret
      exact ⟨rfl, hBc⟩
end Go.Proofs.Ytdlepeogmjmleab
