/-
  Own text. slices.Equal of extension headers; Same of the program and of the document.
-/
import Derived.Test.YtdlepeogmjmleaaJ3
namespace Go.Proofs.Ytdlepeogmjmleaa
open Go.RowKit Go.Proofs
set_option maxRecDepth 100000
theorem list_at {l : List Ex} {i : Nat} (h : i < l.length) : ∃ x, l[i]? = some x := ⟨_, List.getElem?_eq_getElem h⟩
set_option maxHeartbeats 8000000 in
theorem Equal_run (v1 v2 : Value) (l m : List Ex) (w : World) (h1 : ExAt w v1 l) (h2 : ExAt w v2 m) (hn : l.length < 4611686018427387904) (_hn2 : m.length < 4611686018427387904) : Calls Try.prog 44 #[v1, v2] w fun e w' => e = .returned (.bool (exEq l m)) ∧ Below w.heap.size w w' := by
  obtain ⟨a1, c1, rfl, _⟩ := id h1
  obtain ⟨a2, c2, rfl, _⟩ := id h2
  by_cases he : l.length = m.length
  · have HR : Hid (exEq l m = exEq (l.drop 0) (m.drop 0)) := Hid.mk (by rw [List.drop_zero, List.drop_zero])
    have HE : Hid (exEq (l.drop l.length) (m.drop l.length) = true) := Hid.mk (by rw [List.drop_length, he, List.drop_length]; rfl)
    rw [← he] at h2 ⊢
    generalize exEq l m = r at *
    obtain ⟨n, hnn⟩ : ∃ n, l.length = n := ⟨_, rfl⟩
    have HN := Hid.mk hnn
    have HN2 := Hid.mk (he.symm.trans hnn)
    rw [hnn] at h2 hn HE ⊢
    clear hnn he _hn2
    go_enter Try.func44, Try.ntmps44
    go_wp2_with fail
    go_loopg [13] n (fun gm s13 z => ∃ i : Nat, Hid (gm + i = n) ∧ s13 = .int .i64 (i : Int) ∧ Hid (r = exEq (l.drop i) (m.drop i)) ∧ Below w.heap.size w z)
    case atStart => exact ⟨0, Hid.mk rfl, rfl, HR, Below.refl _ _⟩
    case round =>
      obtain ⟨i, HI, rfl, HRi, hBz⟩ := hrel
      by_cases hil : i < n
      · have hili : (i : Int) < (n : Int) := by omega
        obtain ⟨x1, hx1⟩ := list_at (l := l) (i := i) (by rw [HN.out]; exact hil)
        obtain ⟨x2, hx2⟩ := list_at (l := m) (i := i) (by rw [HN2.out]; exact hil)
        have HS := Hid.mk (exEq_step hx1 hx2)
        obtain ⟨p1, rfl, k1, k1b⟩ := h1.sl hBz hx1
        obtain ⟨p2, rfl, k2, k2b⟩ := h2.sl hBz hx2
        have L1 := Hid.mk (World.block_lt_of_cell? _ _ k1)
        have M1 := Hid.mk (World.block_lt_of_cell? _ _ k1b)
        have L2 := Hid.mk (World.block_lt_of_cell? _ _ k2)
        have M2 := Hid.mk (World.block_lt_of_cell? _ _ k2b)
        have H1 := Hid.mk hil
        have H2 := Hid.mk hil
        go_upto_region 6 with fail
        refine wp_region3 (Below wr.heap.size wr) wr.heap.size
            ([] : List (Nat × Cont))
            [kv (.slice (some p1) n c1), kv (.int .i64 (i : Int)), kv (.pointer (some (p1.add (2 * i)))), kv (.agg (SC 2 (exV x1))), kv (.slice (some p2) n c2), kv (.int .i64 (i : Int)), kv (.pointer (some (p2.add (2 * i)))), kv (.agg (SC 2 (exV x2))), kv (.bool (!eqEx x1 x2))]
            [.none, .none, .none, .none, .none, .none, .none, .none, .none]
            [some 16, some 17, some 18, some 19, some 20, some 21, some 22, some 23, some 24]
            [(0, .slice (some p1) n c1), (5, .int .i64 (i : Int)), (1, .slice (some p2) n c2)]
            [[], [], [.slot 0, .slot 1], [.slot 2], [], [], [.slot 4, .slot 5], [.slot 6], [.slot 3, .slot 7]]
            [.slot 8] [16, 17, 18, 19, 20, 21, 22, 23, 24]
            rfl (by kernel_rfl) ⟨rfl, rfl, rfl, trivial⟩ ((Below.refl _ wr).drew) (Nat.le_refl _) trivial trivial (below_GcW (Nat.le_refl _))
            ⟨
            (fun QQ aa ww own hS hBg fr kn => .inl ⟨trivial, fun K hK => wp_value (exec_move rfl fr.1) (hK _ _ ⟨Touch.refl _ _, rfl⟩)⟩),
            (fun QQ aa ww own hS hBg fr kn => .inl ⟨trivial, fun K hK => wp_value (exec_move rfl fr.2.1) (hK _ _ ⟨Touch.refl _ _, rfl⟩)⟩),
            (fun QQ aa ww own hS hBg fr kn => .inl ⟨trivial, fun K hK => wp_value (exec_ixE (i := i) rfl kn.1 kn.2.1 H1.out) (hK _ _ ⟨Touch.refl _ _, rfl⟩)⟩),
            (fun QQ aa ww own hS hBg fr kn => .inl ⟨trivial, fun K hK => wp_value (exec_ld rfl kn.1 (ldEx ((hS.cell L1.out).trans k1) ((hS.cell M1.out).trans k1b))) (hK _ _ ⟨Touch.refl _ _, rfl⟩)⟩),
            (fun QQ aa ww own hS hBg fr kn => .inl ⟨trivial, fun K hK => wp_value (exec_move rfl fr.2.2.1) (hK _ _ ⟨Touch.refl _ _, rfl⟩)⟩),
            (fun QQ aa ww own hS hBg fr kn => .inl ⟨trivial, fun K hK => wp_value (exec_move rfl fr.2.1) (hK _ _ ⟨Touch.refl _ _, rfl⟩)⟩),
            (fun QQ aa ww own hS hBg fr kn => .inl ⟨trivial, fun K hK => wp_value (exec_ixE (i := i) rfl kn.1 kn.2.1 H2.out) (hK _ _ ⟨Touch.refl _ _, rfl⟩)⟩),
            (fun QQ aa ww own hS hBg fr kn => .inl ⟨trivial, fun K hK => wp_value (exec_ld rfl kn.1 (ldEx ((hS.cell L2.out).trans k2) ((hS.cell M2.out).trans k2b))) (hK _ _ ⟨Touch.refl _ _, rfl⟩)⟩),
            (fun QQ aa ww own hS hBg fr kn => .inl ⟨trivial, fun K hK => wp_value (exec_neEx rfl kn.1 kn.2.1) (hK _ _ ⟨Touch.refl _ _, rfl⟩)⟩),
            trivial⟩ ?_
        intro vs own z2 hB2 hsz kn inj
        have e24 : vs 24 = .bool (!eqEx x1 x2) := kn.1
        clear kn inj hsz
        simp only [putAll, Act.put, List.setIfInBounds_toArray, List.set_cons_zero, List.set_cons_succ, e24]
        clear e24
        have hBy := hBz.trans (hB2.mono hBz.size)
        cases hq : eqEx x1 x2
        · have hr : r = false := by rw [HRi.out, HS.out, hq]; rfl
          go_wp2_with fail
          go_ret
          exact ⟨by rw [hr]; rfl, hBy⟩
        · have HR2 : Hid (r = exEq (l.drop (i + 1)) (m.drop (i + 1))) := Hid.mk (by rw [HRi.out, HS.out, hq]; rfl)
          go_wp2_with fail
          go_roundg (n - (i + 1))
          case rel => exact ⟨i + 1, Hid.mk (by omega), by go_num, HR2, hBy⟩
          case measure => have := HI.out; omega
      · have hi2 : i = n := by have := HI.out; omega
        subst hi2
        have hr : r = true := by rw [HRi.out]; exact HE.out
        go_wp2_with fail
        go_ret
        exact ⟨by rw [hr]; rfl, hBz⟩
  · have hr := exEq_len he
    have hei : ¬ (l.length : Int) = (m.length : Int) := by omega
    go_enter Try.func44, Try.ntmps44
    go_wp2_with fail
    go_ret
    exact ⟨by rw [hr]; rfl, Below.refl _ _⟩
theorem en_Equal (args : Array Value) (w : World) : (callFunc 44 args).run Try.prog w = .ok (.enter 44 args) w := by kernel_rfl
set_option maxHeartbeats 16000000 in
theorem Same_run (P Q : Pk) (v1 v2 : Value) (w : World) (h1 : ExAt w v1 P.exts) (h2 : ExAt w v2 Q.exts) (hn1 : P.exts.length < 4611686018427387904) (hn2 : Q.exts.length < 4611686018427387904) : Calls Try.prog 19 #[.agg (SC 46 (pkV P v1)), .agg (SC 46 (pkV Q v2))] w fun e w' => e = .returned (.bool (samP P Q)) ∧ Below w.heap.size w w' := by
  go_enter Try.func19, Try.ntmps19
  go_wp2_with (refine wl_boxWW rfl rfl rfl rfl isPk isPk (by rfl) (fun u => by rfl) ?_; intro g1 g2 u2 hg1 hg2 q1 q2 hB2; refine Hid.out ?_)
  refine Hid.mk ?_
  have hx1 := h1.kept hB2
  have hx2 := h2.kept hB2
  go_upto_region 1 with fail
  refine wp_plain_steps (Below u2.heap.size u2) (fun v v' => Below v.heap.size v v') (fun j vv _ => vv = ((.pointer (some ⟨g1, 0, none⟩) :: .agg (SC 17 (adV P.sv P.sb)) :: .pointer (some ⟨g2, 0, none⟩) :: .agg (SC 17 (adV Q.sv Q.sb)) :: .bool (eqAF P.sv P.sb Q.sv Q.sb) :: .bool (eqAF P.sv P.sb Q.sv Q.sb) :: gv (eqAF P.sv P.sb Q.sv Q.sb) (.pointer (some ⟨g1, 17, none⟩)) :: gv (eqAF P.sv P.sb Q.sv Q.sb) (.agg (SC 17 (adV P.dv P.db))) :: gv (eqAF P.sv P.sb Q.sv Q.sb) (.pointer (some ⟨g2, 17, none⟩)) :: gv (eqAF P.sv P.sb Q.sv Q.sb) (.agg (SC 17 (adV Q.dv Q.db))) :: gv (eqAF P.sv P.sb Q.sv Q.sb) (.bool (eqAF P.dv P.db Q.dv Q.db)) :: .bool ((eqAF P.sv P.sb Q.sv Q.sb) && (eqAF P.dv P.db Q.dv Q.db)) :: .bool ((eqAF P.sv P.sb Q.sv Q.sb) && (eqAF P.dv P.db Q.dv Q.db)) :: gv ((eqAF P.sv P.sb Q.sv Q.sb) && (eqAF P.dv P.db Q.dv Q.db)) (.pointer (some ⟨g1, 34, none⟩)) :: gv ((eqAF P.sv P.sb Q.sv Q.sb) && (eqAF P.dv P.db Q.dv Q.db)) (.int .i64 P.proto) :: gv ((eqAF P.sv P.sb Q.sv Q.sb) && (eqAF P.dv P.db Q.dv Q.db)) (.pointer (some ⟨g2, 34, none⟩)) :: gv ((eqAF P.sv P.sb Q.sv Q.sb) && (eqAF P.dv P.db Q.dv Q.db)) (.int .i64 Q.proto) :: gv ((eqAF P.sv P.sb Q.sv Q.sb) && (eqAF P.dv P.db Q.dv Q.db)) (.bool (decide (P.proto = Q.proto))) :: .bool (((eqAF P.sv P.sb Q.sv Q.sb) && (eqAF P.dv P.db Q.dv Q.db)) && (decide (P.proto = Q.proto))) :: .bool (((eqAF P.sv P.sb Q.sv Q.sb) && (eqAF P.dv P.db Q.dv Q.db)) && (decide (P.proto = Q.proto))) :: gv (((eqAF P.sv P.sb Q.sv Q.sb) && (eqAF P.dv P.db Q.dv Q.db)) && (decide (P.proto = Q.proto))) (.pointer (some ⟨g1, 35, none⟩)) :: gv (((eqAF P.sv P.sb Q.sv Q.sb) && (eqAF P.dv P.db Q.dv Q.db)) && (decide (P.proto = Q.proto))) (.int .i64 P.hop) :: gv (((eqAF P.sv P.sb Q.sv Q.sb) && (eqAF P.dv P.db Q.dv Q.db)) && (decide (P.proto = Q.proto))) (.pointer (some ⟨g2, 35, none⟩)) :: gv (((eqAF P.sv P.sb Q.sv Q.sb) && (eqAF P.dv P.db Q.dv Q.db)) && (decide (P.proto = Q.proto))) (.int .i64 Q.hop) :: gv (((eqAF P.sv P.sb Q.sv Q.sb) && (eqAF P.dv P.db Q.dv Q.db)) && (decide (P.proto = Q.proto))) (.bool (decide (P.hop = Q.hop))) :: .bool ((((eqAF P.sv P.sb Q.sv Q.sb) && (eqAF P.dv P.db Q.dv Q.db)) && (decide (P.proto = Q.proto))) && (decide (P.hop = Q.hop))) :: .bool ((((eqAF P.sv P.sb Q.sv Q.sb) && (eqAF P.dv P.db Q.dv Q.db)) && (decide (P.proto = Q.proto))) && (decide (P.hop = Q.hop))) :: gv ((((eqAF P.sv P.sb Q.sv Q.sb) && (eqAF P.dv P.db Q.dv Q.db)) && (decide (P.proto = Q.proto))) && (decide (P.hop = Q.hop))) (.pointer (some ⟨g1, 36, none⟩)) :: gv ((((eqAF P.sv P.sb Q.sv Q.sb) && (eqAF P.dv P.db Q.dv Q.db)) && (decide (P.proto = Q.proto))) && (decide (P.hop = Q.hop))) (.int .i64 P.cls) :: gv ((((eqAF P.sv P.sb Q.sv Q.sb) && (eqAF P.dv P.db Q.dv Q.db)) && (decide (P.proto = Q.proto))) && (decide (P.hop = Q.hop))) (.pointer (some ⟨g2, 36, none⟩)) :: gv ((((eqAF P.sv P.sb Q.sv Q.sb) && (eqAF P.dv P.db Q.dv Q.db)) && (decide (P.proto = Q.proto))) && (decide (P.hop = Q.hop))) (.int .i64 Q.cls) :: gv ((((eqAF P.sv P.sb Q.sv Q.sb) && (eqAF P.dv P.db Q.dv Q.db)) && (decide (P.proto = Q.proto))) && (decide (P.hop = Q.hop))) (.bool (decide (P.cls = Q.cls))) :: .bool (((((eqAF P.sv P.sb Q.sv Q.sb) && (eqAF P.dv P.db Q.dv Q.db)) && (decide (P.proto = Q.proto))) && (decide (P.hop = Q.hop))) && (decide (P.cls = Q.cls))) :: .bool (((((eqAF P.sv P.sb Q.sv Q.sb) && (eqAF P.dv P.db Q.dv Q.db)) && (decide (P.proto = Q.proto))) && (decide (P.hop = Q.hop))) && (decide (P.cls = Q.cls))) :: gv (((((eqAF P.sv P.sb Q.sv Q.sb) && (eqAF P.dv P.db Q.dv Q.db)) && (decide (P.proto = Q.proto))) && (decide (P.hop = Q.hop))) && (decide (P.cls = Q.cls))) (.pointer (some ⟨g1, 37, none⟩)) :: gv (((((eqAF P.sv P.sb Q.sv Q.sb) && (eqAF P.dv P.db Q.dv Q.db)) && (decide (P.proto = Q.proto))) && (decide (P.hop = Q.hop))) && (decide (P.cls = Q.cls))) (.int .i64 P.id) :: gv (((((eqAF P.sv P.sb Q.sv Q.sb) && (eqAF P.dv P.db Q.dv Q.db)) && (decide (P.proto = Q.proto))) && (decide (P.hop = Q.hop))) && (decide (P.cls = Q.cls))) (.pointer (some ⟨g2, 37, none⟩)) :: gv (((((eqAF P.sv P.sb Q.sv Q.sb) && (eqAF P.dv P.db Q.dv Q.db)) && (decide (P.proto = Q.proto))) && (decide (P.hop = Q.hop))) && (decide (P.cls = Q.cls))) (.int .i64 Q.id) :: gv (((((eqAF P.sv P.sb Q.sv Q.sb) && (eqAF P.dv P.db Q.dv Q.db)) && (decide (P.proto = Q.proto))) && (decide (P.hop = Q.hop))) && (decide (P.cls = Q.cls))) (.bool (decide (P.id = Q.id))) :: .bool ((((((eqAF P.sv P.sb Q.sv Q.sb) && (eqAF P.dv P.db Q.dv Q.db)) && (decide (P.proto = Q.proto))) && (decide (P.hop = Q.hop))) && (decide (P.cls = Q.cls))) && (decide (P.id = Q.id))) :: .bool ((((((eqAF P.sv P.sb Q.sv Q.sb) && (eqAF P.dv P.db Q.dv Q.db)) && (decide (P.proto = Q.proto))) && (decide (P.hop = Q.hop))) && (decide (P.cls = Q.cls))) && (decide (P.id = Q.id))) :: gv ((((((eqAF P.sv P.sb Q.sv Q.sb) && (eqAF P.dv P.db Q.dv Q.db)) && (decide (P.proto = Q.proto))) && (decide (P.hop = Q.hop))) && (decide (P.cls = Q.cls))) && (decide (P.id = Q.id))) (.pointer (some ⟨g1, 38, none⟩)) :: gv ((((((eqAF P.sv P.sb Q.sv Q.sb) && (eqAF P.dv P.db Q.dv Q.db)) && (decide (P.proto = Q.proto))) && (decide (P.hop = Q.hop))) && (decide (P.cls = Q.cls))) && (decide (P.id = Q.id))) (.int .i64 P.off) :: gv ((((((eqAF P.sv P.sb Q.sv Q.sb) && (eqAF P.dv P.db Q.dv Q.db)) && (decide (P.proto = Q.proto))) && (decide (P.hop = Q.hop))) && (decide (P.cls = Q.cls))) && (decide (P.id = Q.id))) (.pointer (some ⟨g2, 38, none⟩)) :: gv ((((((eqAF P.sv P.sb Q.sv Q.sb) && (eqAF P.dv P.db Q.dv Q.db)) && (decide (P.proto = Q.proto))) && (decide (P.hop = Q.hop))) && (decide (P.cls = Q.cls))) && (decide (P.id = Q.id))) (.int .i64 Q.off) :: gv ((((((eqAF P.sv P.sb Q.sv Q.sb) && (eqAF P.dv P.db Q.dv Q.db)) && (decide (P.proto = Q.proto))) && (decide (P.hop = Q.hop))) && (decide (P.cls = Q.cls))) && (decide (P.id = Q.id))) (.bool (decide (P.off = Q.off))) :: .bool (((((((eqAF P.sv P.sb Q.sv Q.sb) && (eqAF P.dv P.db Q.dv Q.db)) && (decide (P.proto = Q.proto))) && (decide (P.hop = Q.hop))) && (decide (P.cls = Q.cls))) && (decide (P.id = Q.id))) && (decide (P.off = Q.off))) :: .bool (((((((eqAF P.sv P.sb Q.sv Q.sb) && (eqAF P.dv P.db Q.dv Q.db)) && (decide (P.proto = Q.proto))) && (decide (P.hop = Q.hop))) && (decide (P.cls = Q.cls))) && (decide (P.id = Q.id))) && (decide (P.off = Q.off))) :: gv (((((((eqAF P.sv P.sb Q.sv Q.sb) && (eqAF P.dv P.db Q.dv Q.db)) && (decide (P.proto = Q.proto))) && (decide (P.hop = Q.hop))) && (decide (P.cls = Q.cls))) && (decide (P.id = Q.id))) && (decide (P.off = Q.off))) (.pointer (some ⟨g1, 39, none⟩)) :: gv (((((((eqAF P.sv P.sb Q.sv Q.sb) && (eqAF P.dv P.db Q.dv Q.db)) && (decide (P.proto = Q.proto))) && (decide (P.hop = Q.hop))) && (decide (P.cls = Q.cls))) && (decide (P.id = Q.id))) && (decide (P.off = Q.off))) (.bool P.more) :: gv (((((((eqAF P.sv P.sb Q.sv Q.sb) && (eqAF P.dv P.db Q.dv Q.db)) && (decide (P.proto = Q.proto))) && (decide (P.hop = Q.hop))) && (decide (P.cls = Q.cls))) && (decide (P.id = Q.id))) && (decide (P.off = Q.off))) (.pointer (some ⟨g2, 39, none⟩)) :: gv (((((((eqAF P.sv P.sb Q.sv Q.sb) && (eqAF P.dv P.db Q.dv Q.db)) && (decide (P.proto = Q.proto))) && (decide (P.hop = Q.hop))) && (decide (P.cls = Q.cls))) && (decide (P.id = Q.id))) && (decide (P.off = Q.off))) (.bool Q.more) :: gv (((((((eqAF P.sv P.sb Q.sv Q.sb) && (eqAF P.dv P.db Q.dv Q.db)) && (decide (P.proto = Q.proto))) && (decide (P.hop = Q.hop))) && (decide (P.cls = Q.cls))) && (decide (P.id = Q.id))) && (decide (P.off = Q.off))) (.bool (P.more == Q.more)) :: .bool ((((((((eqAF P.sv P.sb Q.sv Q.sb) && (eqAF P.dv P.db Q.dv Q.db)) && (decide (P.proto = Q.proto))) && (decide (P.hop = Q.hop))) && (decide (P.cls = Q.cls))) && (decide (P.id = Q.id))) && (decide (P.off = Q.off))) && (P.more == Q.more)) :: .bool ((((((((eqAF P.sv P.sb Q.sv Q.sb) && (eqAF P.dv P.db Q.dv Q.db)) && (decide (P.proto = Q.proto))) && (decide (P.hop = Q.hop))) && (decide (P.cls = Q.cls))) && (decide (P.id = Q.id))) && (decide (P.off = Q.off))) && (P.more == Q.more)) :: gv ((((((((eqAF P.sv P.sb Q.sv Q.sb) && (eqAF P.dv P.db Q.dv Q.db)) && (decide (P.proto = Q.proto))) && (decide (P.hop = Q.hop))) && (decide (P.cls = Q.cls))) && (decide (P.id = Q.id))) && (decide (P.off = Q.off))) && (P.more == Q.more)) (.pointer (some ⟨g1, 40, none⟩)) :: gv ((((((((eqAF P.sv P.sb Q.sv Q.sb) && (eqAF P.dv P.db Q.dv Q.db)) && (decide (P.proto = Q.proto))) && (decide (P.hop = Q.hop))) && (decide (P.cls = Q.cls))) && (decide (P.id = Q.id))) && (decide (P.off = Q.off))) && (P.more == Q.more)) (.bool P.still) :: gv ((((((((eqAF P.sv P.sb Q.sv Q.sb) && (eqAF P.dv P.db Q.dv Q.db)) && (decide (P.proto = Q.proto))) && (decide (P.hop = Q.hop))) && (decide (P.cls = Q.cls))) && (decide (P.id = Q.id))) && (decide (P.off = Q.off))) && (P.more == Q.more)) (.pointer (some ⟨g2, 40, none⟩)) :: gv ((((((((eqAF P.sv P.sb Q.sv Q.sb) && (eqAF P.dv P.db Q.dv Q.db)) && (decide (P.proto = Q.proto))) && (decide (P.hop = Q.hop))) && (decide (P.cls = Q.cls))) && (decide (P.id = Q.id))) && (decide (P.off = Q.off))) && (P.more == Q.more)) (.bool Q.still) :: gv ((((((((eqAF P.sv P.sb Q.sv Q.sb) && (eqAF P.dv P.db Q.dv Q.db)) && (decide (P.proto = Q.proto))) && (decide (P.hop = Q.hop))) && (decide (P.cls = Q.cls))) && (decide (P.id = Q.id))) && (decide (P.off = Q.off))) && (P.more == Q.more)) (.bool (P.still == Q.still)) :: .bool (((((((((eqAF P.sv P.sb Q.sv Q.sb) && (eqAF P.dv P.db Q.dv Q.db)) && (decide (P.proto = Q.proto))) && (decide (P.hop = Q.hop))) && (decide (P.cls = Q.cls))) && (decide (P.id = Q.id))) && (decide (P.off = Q.off))) && (P.more == Q.more)) && (P.still == Q.still)) :: .bool (((((((((eqAF P.sv P.sb Q.sv Q.sb) && (eqAF P.dv P.db Q.dv Q.db)) && (decide (P.proto = Q.proto))) && (decide (P.hop = Q.hop))) && (decide (P.cls = Q.cls))) && (decide (P.id = Q.id))) && (decide (P.off = Q.off))) && (P.more == Q.more)) && (P.still == Q.still)) :: gv (((((((((eqAF P.sv P.sb Q.sv Q.sb) && (eqAF P.dv P.db Q.dv Q.db)) && (decide (P.proto = Q.proto))) && (decide (P.hop = Q.hop))) && (decide (P.cls = Q.cls))) && (decide (P.id = Q.id))) && (decide (P.off = Q.off))) && (P.more == Q.more)) && (P.still == Q.still)) (.pointer (some ⟨g1, 41, none⟩)) :: gv (((((((((eqAF P.sv P.sb Q.sv Q.sb) && (eqAF P.dv P.db Q.dv Q.db)) && (decide (P.proto = Q.proto))) && (decide (P.hop = Q.hop))) && (decide (P.cls = Q.cls))) && (decide (P.id = Q.id))) && (decide (P.off = Q.off))) && (P.more == Q.more)) && (P.still == Q.still)) (.string P.opts) :: gv (((((((((eqAF P.sv P.sb Q.sv Q.sb) && (eqAF P.dv P.db Q.dv Q.db)) && (decide (P.proto = Q.proto))) && (decide (P.hop = Q.hop))) && (decide (P.cls = Q.cls))) && (decide (P.id = Q.id))) && (decide (P.off = Q.off))) && (P.more == Q.more)) && (P.still == Q.still)) (.pointer (some ⟨g2, 41, none⟩)) :: gv (((((((((eqAF P.sv P.sb Q.sv Q.sb) && (eqAF P.dv P.db Q.dv Q.db)) && (decide (P.proto = Q.proto))) && (decide (P.hop = Q.hop))) && (decide (P.cls = Q.cls))) && (decide (P.id = Q.id))) && (decide (P.off = Q.off))) && (P.more == Q.more)) && (P.still == Q.still)) (.string Q.opts) :: gv (((((((((eqAF P.sv P.sb Q.sv Q.sb) && (eqAF P.dv P.db Q.dv Q.db)) && (decide (P.proto = Q.proto))) && (decide (P.hop = Q.hop))) && (decide (P.cls = Q.cls))) && (decide (P.id = Q.id))) && (decide (P.off = Q.off))) && (P.more == Q.more)) && (P.still == Q.still)) (.bool (decide (P.opts = Q.opts))) :: .bool ((((((((((eqAF P.sv P.sb Q.sv Q.sb) && (eqAF P.dv P.db Q.dv Q.db)) && (decide (P.proto = Q.proto))) && (decide (P.hop = Q.hop))) && (decide (P.cls = Q.cls))) && (decide (P.id = Q.id))) && (decide (P.off = Q.off))) && (P.more == Q.more)) && (P.still == Q.still)) && (decide (P.opts = Q.opts))) :: .bool ((((((((((eqAF P.sv P.sb Q.sv Q.sb) && (eqAF P.dv P.db Q.dv Q.db)) && (decide (P.proto = Q.proto))) && (decide (P.hop = Q.hop))) && (decide (P.cls = Q.cls))) && (decide (P.id = Q.id))) && (decide (P.off = Q.off))) && (P.more == Q.more)) && (P.still == Q.still)) && (decide (P.opts = Q.opts))) :: gv ((((((((((eqAF P.sv P.sb Q.sv Q.sb) && (eqAF P.dv P.db Q.dv Q.db)) && (decide (P.proto = Q.proto))) && (decide (P.hop = Q.hop))) && (decide (P.cls = Q.cls))) && (decide (P.id = Q.id))) && (decide (P.off = Q.off))) && (P.more == Q.more)) && (P.still == Q.still)) && (decide (P.opts = Q.opts))) (.pointer (some ⟨g1, 42, none⟩)) :: gv ((((((((((eqAF P.sv P.sb Q.sv Q.sb) && (eqAF P.dv P.db Q.dv Q.db)) && (decide (P.proto = Q.proto))) && (decide (P.hop = Q.hop))) && (decide (P.cls = Q.cls))) && (decide (P.id = Q.id))) && (decide (P.off = Q.off))) && (P.more == Q.more)) && (P.still == Q.still)) && (decide (P.opts = Q.opts))) (.int .i64 P.flow) :: gv ((((((((((eqAF P.sv P.sb Q.sv Q.sb) && (eqAF P.dv P.db Q.dv Q.db)) && (decide (P.proto = Q.proto))) && (decide (P.hop = Q.hop))) && (decide (P.cls = Q.cls))) && (decide (P.id = Q.id))) && (decide (P.off = Q.off))) && (P.more == Q.more)) && (P.still == Q.still)) && (decide (P.opts = Q.opts))) (.pointer (some ⟨g2, 42, none⟩)) :: gv ((((((((((eqAF P.sv P.sb Q.sv Q.sb) && (eqAF P.dv P.db Q.dv Q.db)) && (decide (P.proto = Q.proto))) && (decide (P.hop = Q.hop))) && (decide (P.cls = Q.cls))) && (decide (P.id = Q.id))) && (decide (P.off = Q.off))) && (P.more == Q.more)) && (P.still == Q.still)) && (decide (P.opts = Q.opts))) (.int .i64 Q.flow) :: gv ((((((((((eqAF P.sv P.sb Q.sv Q.sb) && (eqAF P.dv P.db Q.dv Q.db)) && (decide (P.proto = Q.proto))) && (decide (P.hop = Q.hop))) && (decide (P.cls = Q.cls))) && (decide (P.id = Q.id))) && (decide (P.off = Q.off))) && (P.more == Q.more)) && (P.still == Q.still)) && (decide (P.opts = Q.opts))) (.bool (decide (P.flow = Q.flow))) :: .bool (((((((((((eqAF P.sv P.sb Q.sv Q.sb) && (eqAF P.dv P.db Q.dv Q.db)) && (decide (P.proto = Q.proto))) && (decide (P.hop = Q.hop))) && (decide (P.cls = Q.cls))) && (decide (P.id = Q.id))) && (decide (P.off = Q.off))) && (P.more == Q.more)) && (P.still == Q.still)) && (decide (P.opts = Q.opts))) && (decide (P.flow = Q.flow))) :: .bool (((((((((((eqAF P.sv P.sb Q.sv Q.sb) && (eqAF P.dv P.db Q.dv Q.db)) && (decide (P.proto = Q.proto))) && (decide (P.hop = Q.hop))) && (decide (P.cls = Q.cls))) && (decide (P.id = Q.id))) && (decide (P.off = Q.off))) && (P.more == Q.more)) && (P.still == Q.still)) && (decide (P.opts = Q.opts))) && (decide (P.flow = Q.flow))) :: gv (((((((((((eqAF P.sv P.sb Q.sv Q.sb) && (eqAF P.dv P.db Q.dv Q.db)) && (decide (P.proto = Q.proto))) && (decide (P.hop = Q.hop))) && (decide (P.cls = Q.cls))) && (decide (P.id = Q.id))) && (decide (P.off = Q.off))) && (P.more == Q.more)) && (P.still == Q.still)) && (decide (P.opts = Q.opts))) && (decide (P.flow = Q.flow))) (.pointer (some ⟨g1, 43, none⟩)) :: gv (((((((((((eqAF P.sv P.sb Q.sv Q.sb) && (eqAF P.dv P.db Q.dv Q.db)) && (decide (P.proto = Q.proto))) && (decide (P.hop = Q.hop))) && (decide (P.cls = Q.cls))) && (decide (P.id = Q.id))) && (decide (P.off = Q.off))) && (P.more == Q.more)) && (P.still == Q.still)) && (decide (P.opts = Q.opts))) && (decide (P.flow = Q.flow))) (v1) :: gv (((((((((((eqAF P.sv P.sb Q.sv Q.sb) && (eqAF P.dv P.db Q.dv Q.db)) && (decide (P.proto = Q.proto))) && (decide (P.hop = Q.hop))) && (decide (P.cls = Q.cls))) && (decide (P.id = Q.id))) && (decide (P.off = Q.off))) && (P.more == Q.more)) && (P.still == Q.still)) && (decide (P.opts = Q.opts))) && (decide (P.flow = Q.flow))) (.pointer (some ⟨g2, 43, none⟩)) :: gv (((((((((((eqAF P.sv P.sb Q.sv Q.sb) && (eqAF P.dv P.db Q.dv Q.db)) && (decide (P.proto = Q.proto))) && (decide (P.hop = Q.hop))) && (decide (P.cls = Q.cls))) && (decide (P.id = Q.id))) && (decide (P.off = Q.off))) && (P.more == Q.more)) && (P.still == Q.still)) && (decide (P.opts = Q.opts))) && (decide (P.flow = Q.flow))) (v2) :: gv (((((((((((eqAF P.sv P.sb Q.sv Q.sb) && (eqAF P.dv P.db Q.dv Q.db)) && (decide (P.proto = Q.proto))) && (decide (P.hop = Q.hop))) && (decide (P.cls = Q.cls))) && (decide (P.id = Q.id))) && (decide (P.off = Q.off))) && (P.more == Q.more)) && (P.still == Q.still)) && (decide (P.opts = Q.opts))) && (decide (P.flow = Q.flow))) (.bool (exEq P.exts Q.exts)) :: .bool ((((((((((((eqAF P.sv P.sb Q.sv Q.sb) && (eqAF P.dv P.db Q.dv Q.db)) && (decide (P.proto = Q.proto))) && (decide (P.hop = Q.hop))) && (decide (P.cls = Q.cls))) && (decide (P.id = Q.id))) && (decide (P.off = Q.off))) && (P.more == Q.more)) && (P.still == Q.still)) && (decide (P.opts = Q.opts))) && (decide (P.flow = Q.flow))) && (exEq P.exts Q.exts)) :: .bool ((((((((((((eqAF P.sv P.sb Q.sv Q.sb) && (eqAF P.dv P.db Q.dv Q.db)) && (decide (P.proto = Q.proto))) && (decide (P.hop = Q.hop))) && (decide (P.cls = Q.cls))) && (decide (P.id = Q.id))) && (decide (P.off = Q.off))) && (P.more == Q.more)) && (P.still == Q.still)) && (decide (P.opts = Q.opts))) && (decide (P.flow = Q.flow))) && (exEq P.exts Q.exts)) :: gv ((((((((((((eqAF P.sv P.sb Q.sv Q.sb) && (eqAF P.dv P.db Q.dv Q.db)) && (decide (P.proto = Q.proto))) && (decide (P.hop = Q.hop))) && (decide (P.cls = Q.cls))) && (decide (P.id = Q.id))) && (decide (P.off = Q.off))) && (P.more == Q.more)) && (P.still == Q.still)) && (decide (P.opts = Q.opts))) && (decide (P.flow = Q.flow))) && (exEq P.exts Q.exts)) (.pointer (some ⟨g1, 44, none⟩)) :: gv ((((((((((((eqAF P.sv P.sb Q.sv Q.sb) && (eqAF P.dv P.db Q.dv Q.db)) && (decide (P.proto = Q.proto))) && (decide (P.hop = Q.hop))) && (decide (P.cls = Q.cls))) && (decide (P.id = Q.id))) && (decide (P.off = Q.off))) && (P.more == Q.more)) && (P.still == Q.still)) && (decide (P.opts = Q.opts))) && (decide (P.flow = Q.flow))) && (exEq P.exts Q.exts)) (.bool P.cut) :: gv ((((((((((((eqAF P.sv P.sb Q.sv Q.sb) && (eqAF P.dv P.db Q.dv Q.db)) && (decide (P.proto = Q.proto))) && (decide (P.hop = Q.hop))) && (decide (P.cls = Q.cls))) && (decide (P.id = Q.id))) && (decide (P.off = Q.off))) && (P.more == Q.more)) && (P.still == Q.still)) && (decide (P.opts = Q.opts))) && (decide (P.flow = Q.flow))) && (exEq P.exts Q.exts)) (.pointer (some ⟨g2, 44, none⟩)) :: gv ((((((((((((eqAF P.sv P.sb Q.sv Q.sb) && (eqAF P.dv P.db Q.dv Q.db)) && (decide (P.proto = Q.proto))) && (decide (P.hop = Q.hop))) && (decide (P.cls = Q.cls))) && (decide (P.id = Q.id))) && (decide (P.off = Q.off))) && (P.more == Q.more)) && (P.still == Q.still)) && (decide (P.opts = Q.opts))) && (decide (P.flow = Q.flow))) && (exEq P.exts Q.exts)) (.bool Q.cut) :: gv ((((((((((((eqAF P.sv P.sb Q.sv Q.sb) && (eqAF P.dv P.db Q.dv Q.db)) && (decide (P.proto = Q.proto))) && (decide (P.hop = Q.hop))) && (decide (P.cls = Q.cls))) && (decide (P.id = Q.id))) && (decide (P.off = Q.off))) && (P.more == Q.more)) && (P.still == Q.still)) && (decide (P.opts = Q.opts))) && (decide (P.flow = Q.flow))) && (exEq P.exts Q.exts)) (.bool (P.cut == Q.cut)) :: .bool (((((((((((((eqAF P.sv P.sb Q.sv Q.sb) && (eqAF P.dv P.db Q.dv Q.db)) && (decide (P.proto = Q.proto))) && (decide (P.hop = Q.hop))) && (decide (P.cls = Q.cls))) && (decide (P.id = Q.id))) && (decide (P.off = Q.off))) && (P.more == Q.more)) && (P.still == Q.still)) && (decide (P.opts = Q.opts))) && (decide (P.flow = Q.flow))) && (exEq P.exts Q.exts)) && (P.cut == Q.cut)) :: .bool (((((((((((((eqAF P.sv P.sb Q.sv Q.sb) && (eqAF P.dv P.db Q.dv Q.db)) && (decide (P.proto = Q.proto))) && (decide (P.hop = Q.hop))) && (decide (P.cls = Q.cls))) && (decide (P.id = Q.id))) && (decide (P.off = Q.off))) && (P.more == Q.more)) && (P.still == Q.still)) && (decide (P.opts = Q.opts))) && (decide (P.flow = Q.flow))) && (exEq P.exts Q.exts)) && (P.cut == Q.cut)) :: gv (((((((((((((eqAF P.sv P.sb Q.sv Q.sb) && (eqAF P.dv P.db Q.dv Q.db)) && (decide (P.proto = Q.proto))) && (decide (P.hop = Q.hop))) && (decide (P.cls = Q.cls))) && (decide (P.id = Q.id))) && (decide (P.off = Q.off))) && (P.more == Q.more)) && (P.still == Q.still)) && (decide (P.opts = Q.opts))) && (decide (P.flow = Q.flow))) && (exEq P.exts Q.exts)) && (P.cut == Q.cut)) (.pointer (some ⟨g1, 45, none⟩)) :: gv (((((((((((((eqAF P.sv P.sb Q.sv Q.sb) && (eqAF P.dv P.db Q.dv Q.db)) && (decide (P.proto = Q.proto))) && (decide (P.hop = Q.hop))) && (decide (P.cls = Q.cls))) && (decide (P.id = Q.id))) && (decide (P.off = Q.off))) && (P.more == Q.more)) && (P.still == Q.still)) && (decide (P.opts = Q.opts))) && (decide (P.flow = Q.flow))) && (exEq P.exts Q.exts)) && (P.cut == Q.cut)) (.string P.pay) :: gv (((((((((((((eqAF P.sv P.sb Q.sv Q.sb) && (eqAF P.dv P.db Q.dv Q.db)) && (decide (P.proto = Q.proto))) && (decide (P.hop = Q.hop))) && (decide (P.cls = Q.cls))) && (decide (P.id = Q.id))) && (decide (P.off = Q.off))) && (P.more == Q.more)) && (P.still == Q.still)) && (decide (P.opts = Q.opts))) && (decide (P.flow = Q.flow))) && (exEq P.exts Q.exts)) && (P.cut == Q.cut)) (.pointer (some ⟨g2, 45, none⟩)) :: gv (((((((((((((eqAF P.sv P.sb Q.sv Q.sb) && (eqAF P.dv P.db Q.dv Q.db)) && (decide (P.proto = Q.proto))) && (decide (P.hop = Q.hop))) && (decide (P.cls = Q.cls))) && (decide (P.id = Q.id))) && (decide (P.off = Q.off))) && (P.more == Q.more)) && (P.still == Q.still)) && (decide (P.opts = Q.opts))) && (decide (P.flow = Q.flow))) && (exEq P.exts Q.exts)) && (P.cut == Q.cut)) (.string Q.pay) :: gv (((((((((((((eqAF P.sv P.sb Q.sv Q.sb) && (eqAF P.dv P.db Q.dv Q.db)) && (decide (P.proto = Q.proto))) && (decide (P.hop = Q.hop))) && (decide (P.cls = Q.cls))) && (decide (P.id = Q.id))) && (decide (P.off = Q.off))) && (P.more == Q.more)) && (P.still == Q.still)) && (decide (P.opts = Q.opts))) && (decide (P.flow = Q.flow))) && (exEq P.exts Q.exts)) && (P.cut == Q.cut)) (.bool (decide (P.pay = Q.pay))) :: .bool ((((((((((((((eqAF P.sv P.sb Q.sv Q.sb) && (eqAF P.dv P.db Q.dv Q.db)) && (decide (P.proto = Q.proto))) && (decide (P.hop = Q.hop))) && (decide (P.cls = Q.cls))) && (decide (P.id = Q.id))) && (decide (P.off = Q.off))) && (P.more == Q.more)) && (P.still == Q.still)) && (decide (P.opts = Q.opts))) && (decide (P.flow = Q.flow))) && (exEq P.exts Q.exts)) && (P.cut == Q.cut)) && (decide (P.pay = Q.pay))) :: .bool ((((((((((((((eqAF P.sv P.sb Q.sv Q.sb) && (eqAF P.dv P.db Q.dv Q.db)) && (decide (P.proto = Q.proto))) && (decide (P.hop = Q.hop))) && (decide (P.cls = Q.cls))) && (decide (P.id = Q.id))) && (decide (P.off = Q.off))) && (P.more == Q.more)) && (P.still == Q.still)) && (decide (P.opts = Q.opts))) && (decide (P.flow = Q.flow))) && (exEq P.exts Q.exts)) && (P.cut == Q.cut)) && (decide (P.pay = Q.pay))) :: []) : List Value).getD j undef)
      (5 :: 6 :: 7 :: 8 :: 9 :: 10 :: 11 :: 12 :: 13 :: 14 :: 15 :: 16 :: 17 :: 18 :: 19 :: 20 :: 21 :: 22 :: 23 :: 24 :: 25 :: 26 :: 27 :: 28 :: 29 :: 30 :: 31 :: 32 :: 33 :: 34 :: 35 :: 36 :: 37 :: 38 :: 39 :: 40 :: 41 :: 42 :: 43 :: 44 :: 45 :: 46 :: 47 :: 48 :: 49 :: 50 :: 51 :: 52 :: 53 :: 54 :: 55 :: 56 :: 57 :: 58 :: 59 :: 60 :: 61 :: 62 :: 63 :: 64 :: 65 :: 66 :: 67 :: 68 :: 69 :: 70 :: 71 :: 72 :: 73 :: 74 :: 75 :: 76 :: 77 :: 78 :: 79 :: 80 :: 81 :: 82 :: 83 :: 84 :: 85 :: 86 :: 87 :: 88 :: 89 :: 90 :: 91 :: 92 :: 93 :: 94 :: 95 :: 96 :: 97 :: 98 :: 99 :: 100 :: 4 :: [])
      [(2, .pointer (some ⟨g1, 0, none⟩)), (3, .pointer (some ⟨g2, 0, none⟩))] [] 0
      ([] :: [0] :: [] :: [2] :: [1, 3] :: [4] :: [5] :: [5, 6] :: [5] :: [5, 8] :: [5, 7, 9] :: [5, 10] :: [11] :: [12] :: [12, 13] :: [12] :: [12, 15] :: [12, 14, 16] :: [12, 17] :: [18] :: [19] :: [19, 20] :: [19] :: [19, 22] :: [19, 21, 23] :: [19, 24] :: [25] :: [26] :: [26, 27] :: [26] :: [26, 29] :: [26, 28, 30] :: [26, 31] :: [32] :: [33] :: [33, 34] :: [33] :: [33, 36] :: [33, 35, 37] :: [33, 38] :: [39] :: [40] :: [40, 41] :: [40] :: [40, 43] :: [40, 42, 44] :: [40, 45] :: [46] :: [47] :: [47, 48] :: [47] :: [47, 50] :: [47, 49, 51] :: [47, 52] :: [53] :: [54] :: [54, 55] :: [54] :: [54, 57] :: [54, 56, 58] :: [54, 59] :: [60] :: [61] :: [61, 62] :: [61] :: [61, 64] :: [61, 63, 65] :: [61, 66] :: [67] :: [68] :: [68, 69] :: [68] :: [68, 71] :: [68, 70, 72] :: [68, 73] :: [74] :: [75] :: [75, 76] :: [75] :: [75, 78] :: [75, 77, 79] :: [75, 80] :: [81] :: [82] :: [82, 83] :: [82] :: [82, 85] :: [82, 84, 86] :: [82, 87] :: [88] :: [89] :: [89, 90] :: [89] :: [89, 92] :: [89, 91, 93] :: [89, 94] :: [95] :: [])
      (by kernel_rfl) ⟨rfl, rfl, trivial⟩ trivial (Below.refl _ _) (fun v v' h hb => h.trans (hb.mono h.size)) (fun _ _ _ _ h _ => h)
      ⟨
      (fun QQ aa ww hS fr kn => sg0 rfl (fun K hK => wp_value (exec_fpk 0 (by decide) rfl fr.1) (hK _ _ rfl (Below.refl _ _)))),
      (fun QQ aa ww hS fr kn => sg0 rfl (fun K hK => wp_value (exec_ld rfl kn.1 (ld_src (SAt.kept q1 hS))) (hK _ _ rfl (Below.refl _ _)))),
      (fun QQ aa ww hS fr kn => sg0 rfl (fun K hK => wp_value (exec_fpk 0 (by decide) rfl fr.2.1) (hK _ _ rfl (Below.refl _ _)))),
      (fun QQ aa ww hS fr kn => sg0 rfl (fun K hK => wp_value (exec_ld rfl kn.1 (ld_src (SAt.kept q2 hS))) (hK _ _ rfl (Below.refl _ _)))),
      (fun QQ aa ww hS fr kn => sg0 rfl (fun K hK => wp_value (exec_eqA rfl kn.1 kn.2.1) (hK _ _ rfl (Below.refl _ _)))),
      (fun QQ aa ww hS fr kn => sg0 rfl (fun K hK => wp_value (exec_move rfl kn.1) (hK _ _ rfl (Below.refl _ _)))),
      (fun QQ aa ww hS fr kn => sgT rfl kn.1 (fun hc K hK => wp_value (exec_fpk 1 (by decide) rfl fr.1) (hK _ _ (gv_t hc).symm (Below.refl _ _))) (fun h0 => (gv_f h0).symm)),
      (fun QQ aa ww hS fr kn => sgT rfl kn.1 (fun hc K hK => wp_value (exec_ld rfl (kn.2.1.trans (gv_t hc)) (ld_dst (SAt.kept q1 hS))) (hK _ _ (gv_t hc).symm (Below.refl _ _))) (fun h0 => (gv_f h0).symm)),
      (fun QQ aa ww hS fr kn => sgT rfl kn.1 (fun hc K hK => wp_value (exec_fpk 1 (by decide) rfl fr.2.1) (hK _ _ (gv_t hc).symm (Below.refl _ _))) (fun h0 => (gv_f h0).symm)),
      (fun QQ aa ww hS fr kn => sgT rfl kn.1 (fun hc K hK => wp_value (exec_ld rfl (kn.2.1.trans (gv_t hc)) (ld_dst (SAt.kept q2 hS))) (hK _ _ (gv_t hc).symm (Below.refl _ _))) (fun h0 => (gv_f h0).symm)),
      (fun QQ aa ww hS fr kn => sgT rfl kn.1 (fun hc K hK => wp_value (exec_eqA rfl (kn.2.1.trans (gv_t hc)) (kn.2.2.1.trans (gv_t hc))) (hK _ _ (gv_t hc).symm (Below.refl _ _))) (fun h0 => (gv_f h0).symm)),
      (fun QQ aa ww hS fr kn => sg0 rfl (fun K hK => wp_value (exec_pickAnd rfl kn.1 (fun hx => kn.2.1.trans (gv_t hx)) rfl) (hK _ _ rfl (Below.refl _ _)))),
      (fun QQ aa ww hS fr kn => sg0 rfl (fun K hK => wp_value (exec_move rfl kn.1) (hK _ _ rfl (Below.refl _ _)))),
      (fun QQ aa ww hS fr kn => sgT rfl kn.1 (fun hc K hK => wp_value (exec_fpk 2 (by decide) rfl fr.1) (hK _ _ (gv_t hc).symm (Below.refl _ _))) (fun h0 => (gv_f h0).symm)),
      (fun QQ aa ww hS fr kn => sgT rfl kn.1 (fun hc K hK => wp_value (exec_ld rfl (kn.2.1.trans (gv_t hc)) (ldP (pk_proto (SAt.kept q1 hS)))) (hK _ _ (gv_t hc).symm (Below.refl _ _))) (fun h0 => (gv_f h0).symm)),
      (fun QQ aa ww hS fr kn => sgT rfl kn.1 (fun hc K hK => wp_value (exec_fpk 2 (by decide) rfl fr.2.1) (hK _ _ (gv_t hc).symm (Below.refl _ _))) (fun h0 => (gv_f h0).symm)),
      (fun QQ aa ww hS fr kn => sgT rfl kn.1 (fun hc K hK => wp_value (exec_ld rfl (kn.2.1.trans (gv_t hc)) (ldP (pk_proto (SAt.kept q2 hS)))) (hK _ _ (gv_t hc).symm (Below.refl _ _))) (fun h0 => (gv_f h0).symm)),
      (fun QQ aa ww hS fr kn => sgT rfl kn.1 (fun hc K hK => wp_value (cmp_eq (m := P.proto) (n := Q.proto) rfl (kn.2.1.trans (gv_t hc)) (kn.2.2.1.trans (gv_t hc))) (hK _ _ (gv_t hc).symm (Below.refl _ _))) (fun h0 => (gv_f h0).symm)),
      (fun QQ aa ww hS fr kn => sg0 rfl (fun K hK => wp_value (exec_pickAnd rfl kn.1 (fun hx => kn.2.1.trans (gv_t hx)) rfl) (hK _ _ rfl (Below.refl _ _)))),
      (fun QQ aa ww hS fr kn => sg0 rfl (fun K hK => wp_value (exec_move rfl kn.1) (hK _ _ rfl (Below.refl _ _)))),
      (fun QQ aa ww hS fr kn => sgT rfl kn.1 (fun hc K hK => wp_value (exec_fpk 3 (by decide) rfl fr.1) (hK _ _ (gv_t hc).symm (Below.refl _ _))) (fun h0 => (gv_f h0).symm)),
      (fun QQ aa ww hS fr kn => sgT rfl kn.1 (fun hc K hK => wp_value (exec_ld rfl (kn.2.1.trans (gv_t hc)) (ldP (pk_hop (SAt.kept q1 hS)))) (hK _ _ (gv_t hc).symm (Below.refl _ _))) (fun h0 => (gv_f h0).symm)),
      (fun QQ aa ww hS fr kn => sgT rfl kn.1 (fun hc K hK => wp_value (exec_fpk 3 (by decide) rfl fr.2.1) (hK _ _ (gv_t hc).symm (Below.refl _ _))) (fun h0 => (gv_f h0).symm)),
      (fun QQ aa ww hS fr kn => sgT rfl kn.1 (fun hc K hK => wp_value (exec_ld rfl (kn.2.1.trans (gv_t hc)) (ldP (pk_hop (SAt.kept q2 hS)))) (hK _ _ (gv_t hc).symm (Below.refl _ _))) (fun h0 => (gv_f h0).symm)),
      (fun QQ aa ww hS fr kn => sgT rfl kn.1 (fun hc K hK => wp_value (cmp_eq (m := P.hop) (n := Q.hop) rfl (kn.2.1.trans (gv_t hc)) (kn.2.2.1.trans (gv_t hc))) (hK _ _ (gv_t hc).symm (Below.refl _ _))) (fun h0 => (gv_f h0).symm)),
      (fun QQ aa ww hS fr kn => sg0 rfl (fun K hK => wp_value (exec_pickAnd rfl kn.1 (fun hx => kn.2.1.trans (gv_t hx)) rfl) (hK _ _ rfl (Below.refl _ _)))),
      (fun QQ aa ww hS fr kn => sg0 rfl (fun K hK => wp_value (exec_move rfl kn.1) (hK _ _ rfl (Below.refl _ _)))),
      (fun QQ aa ww hS fr kn => sgT rfl kn.1 (fun hc K hK => wp_value (exec_fpk 4 (by decide) rfl fr.1) (hK _ _ (gv_t hc).symm (Below.refl _ _))) (fun h0 => (gv_f h0).symm)),
      (fun QQ aa ww hS fr kn => sgT rfl kn.1 (fun hc K hK => wp_value (exec_ld rfl (kn.2.1.trans (gv_t hc)) (ldP (pk_cls (SAt.kept q1 hS)))) (hK _ _ (gv_t hc).symm (Below.refl _ _))) (fun h0 => (gv_f h0).symm)),
      (fun QQ aa ww hS fr kn => sgT rfl kn.1 (fun hc K hK => wp_value (exec_fpk 4 (by decide) rfl fr.2.1) (hK _ _ (gv_t hc).symm (Below.refl _ _))) (fun h0 => (gv_f h0).symm)),
      (fun QQ aa ww hS fr kn => sgT rfl kn.1 (fun hc K hK => wp_value (exec_ld rfl (kn.2.1.trans (gv_t hc)) (ldP (pk_cls (SAt.kept q2 hS)))) (hK _ _ (gv_t hc).symm (Below.refl _ _))) (fun h0 => (gv_f h0).symm)),
      (fun QQ aa ww hS fr kn => sgT rfl kn.1 (fun hc K hK => wp_value (cmp_eq (m := P.cls) (n := Q.cls) rfl (kn.2.1.trans (gv_t hc)) (kn.2.2.1.trans (gv_t hc))) (hK _ _ (gv_t hc).symm (Below.refl _ _))) (fun h0 => (gv_f h0).symm)),
      (fun QQ aa ww hS fr kn => sg0 rfl (fun K hK => wp_value (exec_pickAnd rfl kn.1 (fun hx => kn.2.1.trans (gv_t hx)) rfl) (hK _ _ rfl (Below.refl _ _)))),
      (fun QQ aa ww hS fr kn => sg0 rfl (fun K hK => wp_value (exec_move rfl kn.1) (hK _ _ rfl (Below.refl _ _)))),
      (fun QQ aa ww hS fr kn => sgT rfl kn.1 (fun hc K hK => wp_value (exec_fpk 5 (by decide) rfl fr.1) (hK _ _ (gv_t hc).symm (Below.refl _ _))) (fun h0 => (gv_f h0).symm)),
      (fun QQ aa ww hS fr kn => sgT rfl kn.1 (fun hc K hK => wp_value (exec_ld rfl (kn.2.1.trans (gv_t hc)) (ldP (pk_id (SAt.kept q1 hS)))) (hK _ _ (gv_t hc).symm (Below.refl _ _))) (fun h0 => (gv_f h0).symm)),
      (fun QQ aa ww hS fr kn => sgT rfl kn.1 (fun hc K hK => wp_value (exec_fpk 5 (by decide) rfl fr.2.1) (hK _ _ (gv_t hc).symm (Below.refl _ _))) (fun h0 => (gv_f h0).symm)),
      (fun QQ aa ww hS fr kn => sgT rfl kn.1 (fun hc K hK => wp_value (exec_ld rfl (kn.2.1.trans (gv_t hc)) (ldP (pk_id (SAt.kept q2 hS)))) (hK _ _ (gv_t hc).symm (Below.refl _ _))) (fun h0 => (gv_f h0).symm)),
      (fun QQ aa ww hS fr kn => sgT rfl kn.1 (fun hc K hK => wp_value (cmp_eq (m := P.id) (n := Q.id) rfl (kn.2.1.trans (gv_t hc)) (kn.2.2.1.trans (gv_t hc))) (hK _ _ (gv_t hc).symm (Below.refl _ _))) (fun h0 => (gv_f h0).symm)),
      (fun QQ aa ww hS fr kn => sg0 rfl (fun K hK => wp_value (exec_pickAnd rfl kn.1 (fun hx => kn.2.1.trans (gv_t hx)) rfl) (hK _ _ rfl (Below.refl _ _)))),
      (fun QQ aa ww hS fr kn => sg0 rfl (fun K hK => wp_value (exec_move rfl kn.1) (hK _ _ rfl (Below.refl _ _)))),
      (fun QQ aa ww hS fr kn => sgT rfl kn.1 (fun hc K hK => wp_value (exec_fpk 6 (by decide) rfl fr.1) (hK _ _ (gv_t hc).symm (Below.refl _ _))) (fun h0 => (gv_f h0).symm)),
      (fun QQ aa ww hS fr kn => sgT rfl kn.1 (fun hc K hK => wp_value (exec_ld rfl (kn.2.1.trans (gv_t hc)) (ldP (pk_off (SAt.kept q1 hS)))) (hK _ _ (gv_t hc).symm (Below.refl _ _))) (fun h0 => (gv_f h0).symm)),
      (fun QQ aa ww hS fr kn => sgT rfl kn.1 (fun hc K hK => wp_value (exec_fpk 6 (by decide) rfl fr.2.1) (hK _ _ (gv_t hc).symm (Below.refl _ _))) (fun h0 => (gv_f h0).symm)),
      (fun QQ aa ww hS fr kn => sgT rfl kn.1 (fun hc K hK => wp_value (exec_ld rfl (kn.2.1.trans (gv_t hc)) (ldP (pk_off (SAt.kept q2 hS)))) (hK _ _ (gv_t hc).symm (Below.refl _ _))) (fun h0 => (gv_f h0).symm)),
      (fun QQ aa ww hS fr kn => sgT rfl kn.1 (fun hc K hK => wp_value (cmp_eq (m := P.off) (n := Q.off) rfl (kn.2.1.trans (gv_t hc)) (kn.2.2.1.trans (gv_t hc))) (hK _ _ (gv_t hc).symm (Below.refl _ _))) (fun h0 => (gv_f h0).symm)),
      (fun QQ aa ww hS fr kn => sg0 rfl (fun K hK => wp_value (exec_pickAnd rfl kn.1 (fun hx => kn.2.1.trans (gv_t hx)) rfl) (hK _ _ rfl (Below.refl _ _)))),
      (fun QQ aa ww hS fr kn => sg0 rfl (fun K hK => wp_value (exec_move rfl kn.1) (hK _ _ rfl (Below.refl _ _)))),
      (fun QQ aa ww hS fr kn => sgT rfl kn.1 (fun hc K hK => wp_value (exec_fpk 7 (by decide) rfl fr.1) (hK _ _ (gv_t hc).symm (Below.refl _ _))) (fun h0 => (gv_f h0).symm)),
      (fun QQ aa ww hS fr kn => sgT rfl kn.1 (fun hc K hK => wp_value (exec_ld rfl (kn.2.1.trans (gv_t hc)) (ldPb (pk_more (SAt.kept q1 hS)))) (hK _ _ (gv_t hc).symm (Below.refl _ _))) (fun h0 => (gv_f h0).symm)),
      (fun QQ aa ww hS fr kn => sgT rfl kn.1 (fun hc K hK => wp_value (exec_fpk 7 (by decide) rfl fr.2.1) (hK _ _ (gv_t hc).symm (Below.refl _ _))) (fun h0 => (gv_f h0).symm)),
      (fun QQ aa ww hS fr kn => sgT rfl kn.1 (fun hc K hK => wp_value (exec_ld rfl (kn.2.1.trans (gv_t hc)) (ldPb (pk_more (SAt.kept q2 hS)))) (hK _ _ (gv_t hc).symm (Below.refl _ _))) (fun h0 => (gv_f h0).symm)),
      (fun QQ aa ww hS fr kn => sgT rfl kn.1 (fun hc K hK => wp_value (cmp_eqB rfl (kn.2.1.trans (gv_t hc)) (kn.2.2.1.trans (gv_t hc))) (hK _ _ (gv_t hc).symm (Below.refl _ _))) (fun h0 => (gv_f h0).symm)),
      (fun QQ aa ww hS fr kn => sg0 rfl (fun K hK => wp_value (exec_pickAnd rfl kn.1 (fun hx => kn.2.1.trans (gv_t hx)) rfl) (hK _ _ rfl (Below.refl _ _)))),
      (fun QQ aa ww hS fr kn => sg0 rfl (fun K hK => wp_value (exec_move rfl kn.1) (hK _ _ rfl (Below.refl _ _)))),
      (fun QQ aa ww hS fr kn => sgT rfl kn.1 (fun hc K hK => wp_value (exec_fpk 8 (by decide) rfl fr.1) (hK _ _ (gv_t hc).symm (Below.refl _ _))) (fun h0 => (gv_f h0).symm)),
      (fun QQ aa ww hS fr kn => sgT rfl kn.1 (fun hc K hK => wp_value (exec_ld rfl (kn.2.1.trans (gv_t hc)) (ldPb (pk_still (SAt.kept q1 hS)))) (hK _ _ (gv_t hc).symm (Below.refl _ _))) (fun h0 => (gv_f h0).symm)),
      (fun QQ aa ww hS fr kn => sgT rfl kn.1 (fun hc K hK => wp_value (exec_fpk 8 (by decide) rfl fr.2.1) (hK _ _ (gv_t hc).symm (Below.refl _ _))) (fun h0 => (gv_f h0).symm)),
      (fun QQ aa ww hS fr kn => sgT rfl kn.1 (fun hc K hK => wp_value (exec_ld rfl (kn.2.1.trans (gv_t hc)) (ldPb (pk_still (SAt.kept q2 hS)))) (hK _ _ (gv_t hc).symm (Below.refl _ _))) (fun h0 => (gv_f h0).symm)),
      (fun QQ aa ww hS fr kn => sgT rfl kn.1 (fun hc K hK => wp_value (cmp_eqB rfl (kn.2.1.trans (gv_t hc)) (kn.2.2.1.trans (gv_t hc))) (hK _ _ (gv_t hc).symm (Below.refl _ _))) (fun h0 => (gv_f h0).symm)),
      (fun QQ aa ww hS fr kn => sg0 rfl (fun K hK => wp_value (exec_pickAnd rfl kn.1 (fun hx => kn.2.1.trans (gv_t hx)) rfl) (hK _ _ rfl (Below.refl _ _)))),
      (fun QQ aa ww hS fr kn => sg0 rfl (fun K hK => wp_value (exec_move rfl kn.1) (hK _ _ rfl (Below.refl _ _)))),
      (fun QQ aa ww hS fr kn => sgT rfl kn.1 (fun hc K hK => wp_value (exec_fpk 9 (by decide) rfl fr.1) (hK _ _ (gv_t hc).symm (Below.refl _ _))) (fun h0 => (gv_f h0).symm)),
      (fun QQ aa ww hS fr kn => sgT rfl kn.1 (fun hc K hK => wp_value (exec_ld rfl (kn.2.1.trans (gv_t hc)) (ldPs (pk_opts (SAt.kept q1 hS)))) (hK _ _ (gv_t hc).symm (Below.refl _ _))) (fun h0 => (gv_f h0).symm)),
      (fun QQ aa ww hS fr kn => sgT rfl kn.1 (fun hc K hK => wp_value (exec_fpk 9 (by decide) rfl fr.2.1) (hK _ _ (gv_t hc).symm (Below.refl _ _))) (fun h0 => (gv_f h0).symm)),
      (fun QQ aa ww hS fr kn => sgT rfl kn.1 (fun hc K hK => wp_value (exec_ld rfl (kn.2.1.trans (gv_t hc)) (ldPs (pk_opts (SAt.kept q2 hS)))) (hK _ _ (gv_t hc).symm (Below.refl _ _))) (fun h0 => (gv_f h0).symm)),
      (fun QQ aa ww hS fr kn => sgT rfl kn.1 (fun hc K hK => wp_value (exec_eqSd (s := P.opts) (t := Q.opts) rfl (kn.2.1.trans (gv_t hc)) (kn.2.2.1.trans (gv_t hc))) (hK _ _ (gv_t hc).symm (Below.refl _ _))) (fun h0 => (gv_f h0).symm)),
      (fun QQ aa ww hS fr kn => sg0 rfl (fun K hK => wp_value (exec_pickAnd rfl kn.1 (fun hx => kn.2.1.trans (gv_t hx)) rfl) (hK _ _ rfl (Below.refl _ _)))),
      (fun QQ aa ww hS fr kn => sg0 rfl (fun K hK => wp_value (exec_move rfl kn.1) (hK _ _ rfl (Below.refl _ _)))),
      (fun QQ aa ww hS fr kn => sgT rfl kn.1 (fun hc K hK => wp_value (exec_fpk 10 (by decide) rfl fr.1) (hK _ _ (gv_t hc).symm (Below.refl _ _))) (fun h0 => (gv_f h0).symm)),
      (fun QQ aa ww hS fr kn => sgT rfl kn.1 (fun hc K hK => wp_value (exec_ld rfl (kn.2.1.trans (gv_t hc)) (ldP (pk_flow (SAt.kept q1 hS)))) (hK _ _ (gv_t hc).symm (Below.refl _ _))) (fun h0 => (gv_f h0).symm)),
      (fun QQ aa ww hS fr kn => sgT rfl kn.1 (fun hc K hK => wp_value (exec_fpk 10 (by decide) rfl fr.2.1) (hK _ _ (gv_t hc).symm (Below.refl _ _))) (fun h0 => (gv_f h0).symm)),
      (fun QQ aa ww hS fr kn => sgT rfl kn.1 (fun hc K hK => wp_value (exec_ld rfl (kn.2.1.trans (gv_t hc)) (ldP (pk_flow (SAt.kept q2 hS)))) (hK _ _ (gv_t hc).symm (Below.refl _ _))) (fun h0 => (gv_f h0).symm)),
      (fun QQ aa ww hS fr kn => sgT rfl kn.1 (fun hc K hK => wp_value (cmp_eq (m := P.flow) (n := Q.flow) rfl (kn.2.1.trans (gv_t hc)) (kn.2.2.1.trans (gv_t hc))) (hK _ _ (gv_t hc).symm (Below.refl _ _))) (fun h0 => (gv_f h0).symm)),
      (fun QQ aa ww hS fr kn => sg0 rfl (fun K hK => wp_value (exec_pickAnd rfl kn.1 (fun hx => kn.2.1.trans (gv_t hx)) rfl) (hK _ _ rfl (Below.refl _ _)))),
      (fun QQ aa ww hS fr kn => sg0 rfl (fun K hK => wp_value (exec_move rfl kn.1) (hK _ _ rfl (Below.refl _ _)))),
      (fun QQ aa ww hS fr kn => sgT rfl kn.1 (fun hc K hK => wp_value (exec_fpk 11 (by decide) rfl fr.1) (hK _ _ (gv_t hc).symm (Below.refl _ _))) (fun h0 => (gv_f h0).symm)),
      (fun QQ aa ww hS fr kn => sgT rfl kn.1 (fun hc K hK => wp_value (exec_ld rfl (kn.2.1.trans (gv_t hc)) (ldPx (pk_exts (SAt.kept q1 hS)))) (hK _ _ (gv_t hc).symm (Below.refl _ _))) (fun h0 => (gv_f h0).symm)),
      (fun QQ aa ww hS fr kn => sgT rfl kn.1 (fun hc K hK => wp_value (exec_fpk 11 (by decide) rfl fr.2.1) (hK _ _ (gv_t hc).symm (Below.refl _ _))) (fun h0 => (gv_f h0).symm)),
      (fun QQ aa ww hS fr kn => sgT rfl kn.1 (fun hc K hK => wp_value (exec_ld rfl (kn.2.1.trans (gv_t hc)) (ldPx (pk_exts (SAt.kept q2 hS)))) (hK _ _ (gv_t hc).symm (Below.refl _ _))) (fun h0 => (gv_f h0).symm)),
      (fun QQ aa ww hS fr kn => sgT rfl kn.1 (fun hc K hK => stepc en_Equal rfl (args2 (kn.2.1.trans (gv_t hc)) (kn.2.2.1.trans (gv_t hc))) (Equal_run v1 v2 P.exts Q.exts ww (hx1.kept hS) (hx2.kept hS) hn1 hn2) (fun w' hb => hK _ _ (gv_t hc).symm hb)) (fun h0 => (gv_f h0).symm)),
      (fun QQ aa ww hS fr kn => sg0 rfl (fun K hK => wp_value (exec_pickAnd rfl kn.1 (fun hx => kn.2.1.trans (gv_t hx)) rfl) (hK _ _ rfl (Below.refl _ _)))),
      (fun QQ aa ww hS fr kn => sg0 rfl (fun K hK => wp_value (exec_move rfl kn.1) (hK _ _ rfl (Below.refl _ _)))),
      (fun QQ aa ww hS fr kn => sgT rfl kn.1 (fun hc K hK => wp_value (exec_fpk 12 (by decide) rfl fr.1) (hK _ _ (gv_t hc).symm (Below.refl _ _))) (fun h0 => (gv_f h0).symm)),
      (fun QQ aa ww hS fr kn => sgT rfl kn.1 (fun hc K hK => wp_value (exec_ld rfl (kn.2.1.trans (gv_t hc)) (ldPb (pk_cut (SAt.kept q1 hS)))) (hK _ _ (gv_t hc).symm (Below.refl _ _))) (fun h0 => (gv_f h0).symm)),
      (fun QQ aa ww hS fr kn => sgT rfl kn.1 (fun hc K hK => wp_value (exec_fpk 12 (by decide) rfl fr.2.1) (hK _ _ (gv_t hc).symm (Below.refl _ _))) (fun h0 => (gv_f h0).symm)),
      (fun QQ aa ww hS fr kn => sgT rfl kn.1 (fun hc K hK => wp_value (exec_ld rfl (kn.2.1.trans (gv_t hc)) (ldPb (pk_cut (SAt.kept q2 hS)))) (hK _ _ (gv_t hc).symm (Below.refl _ _))) (fun h0 => (gv_f h0).symm)),
      (fun QQ aa ww hS fr kn => sgT rfl kn.1 (fun hc K hK => wp_value (cmp_eqB rfl (kn.2.1.trans (gv_t hc)) (kn.2.2.1.trans (gv_t hc))) (hK _ _ (gv_t hc).symm (Below.refl _ _))) (fun h0 => (gv_f h0).symm)),
      (fun QQ aa ww hS fr kn => sg0 rfl (fun K hK => wp_value (exec_pickAnd rfl kn.1 (fun hx => kn.2.1.trans (gv_t hx)) rfl) (hK _ _ rfl (Below.refl _ _)))),
      (fun QQ aa ww hS fr kn => sg0 rfl (fun K hK => wp_value (exec_move rfl kn.1) (hK _ _ rfl (Below.refl _ _)))),
      (fun QQ aa ww hS fr kn => sgT rfl kn.1 (fun hc K hK => wp_value (exec_fpk 13 (by decide) rfl fr.1) (hK _ _ (gv_t hc).symm (Below.refl _ _))) (fun h0 => (gv_f h0).symm)),
      (fun QQ aa ww hS fr kn => sgT rfl kn.1 (fun hc K hK => wp_value (exec_ld rfl (kn.2.1.trans (gv_t hc)) (ldPs (pk_pay (SAt.kept q1 hS)))) (hK _ _ (gv_t hc).symm (Below.refl _ _))) (fun h0 => (gv_f h0).symm)),
      (fun QQ aa ww hS fr kn => sgT rfl kn.1 (fun hc K hK => wp_value (exec_fpk 13 (by decide) rfl fr.2.1) (hK _ _ (gv_t hc).symm (Below.refl _ _))) (fun h0 => (gv_f h0).symm)),
      (fun QQ aa ww hS fr kn => sgT rfl kn.1 (fun hc K hK => wp_value (exec_ld rfl (kn.2.1.trans (gv_t hc)) (ldPs (pk_pay (SAt.kept q2 hS)))) (hK _ _ (gv_t hc).symm (Below.refl _ _))) (fun h0 => (gv_f h0).symm)),
      (fun QQ aa ww hS fr kn => sgT rfl kn.1 (fun hc K hK => wp_value (exec_eqSd (s := P.pay) (t := Q.pay) rfl (kn.2.1.trans (gv_t hc)) (kn.2.2.1.trans (gv_t hc))) (hK _ _ (gv_t hc).symm (Below.refl _ _))) (fun h0 => (gv_f h0).symm)),
      (fun QQ aa ww hS fr kn => sg0 rfl (fun K hK => wp_value (exec_pickAnd rfl kn.1 (fun hx => kn.2.1.trans (gv_t hx)) rfl) (hK _ _ rfl (Below.refl _ _)))),
      (fun QQ aa ww hS fr kn => sg0 rfl (fun K hK => wp_value (exec_assign rfl kn.1) (hK _ _ rfl (Below.refl _ _)))),
      trivial⟩ ?_
  intro vs u3 hB3 kn
  have e4 : vs 4 = .bool ((((((((((((((eqAF P.sv P.sb Q.sv Q.sb) && (eqAF P.dv P.db Q.dv Q.db)) && (decide (P.proto = Q.proto))) && (decide (P.hop = Q.hop))) && (decide (P.cls = Q.cls))) && (decide (P.id = Q.id))) && (decide (P.off = Q.off))) && (P.more == Q.more)) && (P.still == Q.still)) && (decide (P.opts = Q.opts))) && (decide (P.flow = Q.flow))) && (exEq P.exts Q.exts)) && (P.cut == Q.cut)) && (decide (P.pay = Q.pay))) := kn 96 (by decide)
  clear kn
  simp only [putAll, Act.put, List.setIfInBounds_toArray, List.set_cons_zero, List.set_cons_succ, e4]
  clear e4
  go_wp2_with fail
  go_ret
  exact ⟨rfl, hB2.trans (hB3.mono hB2.size)⟩
theorem samP_two (P Q : Pk) : samP P Q = (exEq P.exts Q.exts && (((eqAF P.sv P.sb Q.sv Q.sb && eqAF P.dv P.db Q.dv Q.db && decide (P.proto = Q.proto) && decide (P.hop = Q.hop) && decide (P.cls = Q.cls) && decide (P.id = Q.id)) && (decide (P.off = Q.off) && (P.more == Q.more) && (P.still == Q.still) && decide (P.opts = Q.opts) && decide (P.flow = Q.flow))) && (P.cut == Q.cut) && decide (P.pay = Q.pay))) := by
  unfold samP
  cases exEq P.exts Q.exts
  · simp only [Bool.and_false, Bool.false_and]
  · simp only [Bool.and_true, Bool.true_and, Bool.and_assoc]
set_option maxHeartbeats 16000000 in
theorem rSame_run (P Q : Pk) (v1 v2 : Value) (w : World) (h1 : ExAt w v1 P.exts) (h2 : ExAt w v2 Q.exts) (hn1 : P.exts.length < 4611686018427387904) (_hn2 : Q.exts.length < 4611686018427387904) : Calls Try.prog 12 #[.agg (SC 46 (pkV P v1)), .agg (SC 46 (pkV Q v2))] w fun e w' => e = .returned (.bool (samP P Q)) ∧ Below w.heap.size w w' := by
  obtain ⟨a1, c1, rfl, _⟩ := id h1
  obtain ⟨a2, c2, rfl, _⟩ := id h2
  have HT := Hid.mk (samP_two P Q)
  generalize samP P Q = r at *
  go_enter Try.func12, Try.ntmps12
  go_wp2_with (refine wl_boxWW rfl rfl rfl rfl isPk isPk (by rfl) (fun u => by rfl) ?_; intro g1 g2 u2 hg1 hg2 q1 q2 hB2; refine Hid.out ?_)
  refine Hid.mk ?_
  have hx1 := h1.kept hB2
  have hx2 := h2.kept hB2
  have s1 := pk_exts q1
  have s2 := pk_exts q2
  by_cases he : P.exts.length = Q.exts.length
  · have HR : Hid (exEq P.exts Q.exts = exEq (P.exts.drop 0) (Q.exts.drop 0)) := Hid.mk (by rw [List.drop_zero, List.drop_zero])
    have HE : Hid (exEq (P.exts.drop P.exts.length) (Q.exts.drop P.exts.length) = true) := Hid.mk (by rw [List.drop_length, he, List.drop_length]; rfl)
    rw [← he] at h2 hx2 q2 s2 ⊢
    obtain ⟨n, hnn⟩ : ∃ n, P.exts.length = n := ⟨_, rfl⟩
    have HN := Hid.mk hnn
    have HN2 := Hid.mk (he.symm.trans hnn)
    rw [hnn] at h1 h2 hx1 hx2 q1 q2 s1 s2 hn1 HE ⊢
    clear hnn he _hn2
    go_wp2_with (first | (refine wl_value rfl (exec_fpk 11 (by decide) rfl (by rfl)) ?_) | (refine wl_value rfl (exec_ld rfl (by rfl) (ldPx s1)) ?_) | (refine wl_value rfl (exec_ld rfl (by rfl) (ldPx s2)) ?_))
    go_loopg [5] n (fun gm s5 z => ∃ i : Nat, Hid (gm + i = n) ∧ s5 = .int .i64 (i : Int) ∧ Hid (exEq P.exts Q.exts = exEq (P.exts.drop i) (Q.exts.drop i)) ∧ Below u2.heap.size u2 z)
    case atStart => exact ⟨0, Hid.mk rfl, rfl, HR, Below.refl _ _⟩
    case round =>
      obtain ⟨i, HI, rfl, HRi, hBz⟩ := hrel
      have r1 := SAt.kept q1 hBz
      have r2 := SAt.kept q2 hBz
      have t1 := pk_exts r1
      have t2 := pk_exts r2
      by_cases hil : i < n
      · have hili : (i : Int) < (n : Int) := by omega
        obtain ⟨x1, hx1'⟩ := list_at (l := P.exts) (i := i) (by rw [HN.out]; exact hil)
        obtain ⟨x2, hx2'⟩ := list_at (l := Q.exts) (i := i) (by rw [HN2.out]; exact hil)
        have HS := Hid.mk (exEq_step hx1' hx2')
        obtain ⟨p1, rfl, k1, k1b⟩ := hx1.sl hBz hx1'
        obtain ⟨p2, rfl, k2, k2b⟩ := hx2.sl hBz hx2'
        have L1 := Hid.mk (World.block_lt_of_cell? _ _ k1)
        have M1 := Hid.mk (World.block_lt_of_cell? _ _ k1b)
        have L2 := Hid.mk (World.block_lt_of_cell? _ _ k2)
        have M2 := Hid.mk (World.block_lt_of_cell? _ _ k2b)
        have H1 := Hid.mk hil
        have H2 := Hid.mk hil
        go_upto_region 6 with (first | (refine wl_value rfl (exec_fpk 11 (by decide) rfl (by rfl)) ?_) | (refine wl_value rfl (exec_ld rfl (by rfl) (ldPx t1)) ?_))
        refine wp_region3 (Below wr.heap.size wr) wr.heap.size
            ([] : List (Nat × Cont))
            [kv (.pointer (some ⟨g1, 43, none⟩)), kv (.slice (some p1) n c1), kv (.int .i64 (i : Int)), kv (.pointer (some (p1.add (2 * i)))), kv (.agg (SC 2 (exV x1))), kv (.pointer (some ⟨g2, 43, none⟩)), kv (.slice (some p2) n c2), kv (.int .i64 (i : Int)), kv (.pointer (some (p2.add (2 * i)))), kv (.agg (SC 2 (exV x2))), kv (.bool (!eqEx x1 x2))]
            [.none, .none, .none, .none, .none, .none, .none, .none, .none, .none, .none]
            [some 22, some 23, some 24, some 25, some 26, some 27, some 28, some 29, some 30, some 31, some 32]
            [(2, .pointer (some ⟨g1, 0, none⟩)), (3, .pointer (some ⟨g2, 0, none⟩)), (5, .int .i64 (i : Int))]
            [[], [.slot 0], [], [.slot 1, .slot 2], [.slot 3], [], [.slot 5], [], [.slot 6, .slot 7], [.slot 8], [.slot 4, .slot 9]]
            [.slot 10] [22, 23, 24, 25, 26, 27, 28, 29, 30, 31, 32]
            rfl (by kernel_rfl) ⟨rfl, rfl, rfl, trivial⟩ ((Below.refl _ wr).drew) (Nat.le_refl _) trivial trivial (below_GcW (Nat.le_refl _))
            ⟨
            (fun QQ aa ww own hS hBg fr kn => .inl ⟨trivial, fun K hK => wp_value (exec_fpk 11 (by decide) rfl fr.1) (hK _ _ ⟨Touch.refl _ _, rfl⟩)⟩),
            (fun QQ aa ww own hS hBg fr kn => .inl ⟨trivial, fun K hK => wp_value (exec_ld rfl kn.1 (ldPx (pk_exts (SAt.kept r1 hS)))) (hK _ _ ⟨Touch.refl _ _, rfl⟩)⟩),
            (fun QQ aa ww own hS hBg fr kn => .inl ⟨trivial, fun K hK => wp_value (exec_move rfl fr.2.2.1) (hK _ _ ⟨Touch.refl _ _, rfl⟩)⟩),
            (fun QQ aa ww own hS hBg fr kn => .inl ⟨trivial, fun K hK => wp_value (exec_ixE (i := i) rfl kn.1 kn.2.1 H1.out) (hK _ _ ⟨Touch.refl _ _, rfl⟩)⟩),
            (fun QQ aa ww own hS hBg fr kn => .inl ⟨trivial, fun K hK => wp_value (exec_ld rfl kn.1 (ldEx ((hS.cell L1.out).trans k1) ((hS.cell M1.out).trans k1b))) (hK _ _ ⟨Touch.refl _ _, rfl⟩)⟩),
            (fun QQ aa ww own hS hBg fr kn => .inl ⟨trivial, fun K hK => wp_value (exec_fpk 11 (by decide) rfl fr.2.1) (hK _ _ ⟨Touch.refl _ _, rfl⟩)⟩),
            (fun QQ aa ww own hS hBg fr kn => .inl ⟨trivial, fun K hK => wp_value (exec_ld rfl kn.1 (ldPx (pk_exts (SAt.kept r2 hS)))) (hK _ _ ⟨Touch.refl _ _, rfl⟩)⟩),
            (fun QQ aa ww own hS hBg fr kn => .inl ⟨trivial, fun K hK => wp_value (exec_move rfl fr.2.2.1) (hK _ _ ⟨Touch.refl _ _, rfl⟩)⟩),
            (fun QQ aa ww own hS hBg fr kn => .inl ⟨trivial, fun K hK => wp_value (exec_ixE (i := i) rfl kn.1 kn.2.1 H2.out) (hK _ _ ⟨Touch.refl _ _, rfl⟩)⟩),
            (fun QQ aa ww own hS hBg fr kn => .inl ⟨trivial, fun K hK => wp_value (exec_ld rfl kn.1 (ldEx ((hS.cell L2.out).trans k2) ((hS.cell M2.out).trans k2b))) (hK _ _ ⟨Touch.refl _ _, rfl⟩)⟩),
            (fun QQ aa ww own hS hBg fr kn => .inl ⟨trivial, fun K hK => wp_value (exec_neEx rfl kn.1 kn.2.1) (hK _ _ ⟨Touch.refl _ _, rfl⟩)⟩),
            trivial⟩ ?_
        intro vs own z2 hB3 hsz kn inj
        have e32 : vs 32 = .bool (!eqEx x1 x2) := kn.1
        clear kn inj hsz
        simp only [putAll, Act.put, List.setIfInBounds_toArray, List.set_cons_zero, List.set_cons_succ, e32]
        clear e32
        have hBy := hBz.trans (hB3.mono hBz.size)
        cases hq : eqEx x1 x2
        · have hr : r = false := by rw [HT.out, HRi.out, HS.out, hq]; rfl
          go_wp2_with fail
          go_ret
          exact ⟨by rw [hr]; rfl, hB2.trans (hBy.mono hB2.size)⟩
        · have HR2 : Hid (exEq P.exts Q.exts = exEq (P.exts.drop (i + 1)) (Q.exts.drop (i + 1))) := Hid.mk (by rw [HRi.out, HS.out, hq]; rfl)
          go_wp2_with fail
          go_roundg (n - (i + 1))
          case rel => exact ⟨i + 1, Hid.mk (by omega), by go_num, HR2, hBy⟩
          case measure => have := HI.out; omega
      · have hi2 : i = n := by have := HI.out; omega
        subst hi2
        have HQ : Hid (r = ((((eqAF P.sv P.sb Q.sv Q.sb && eqAF P.dv P.db Q.dv Q.db && decide (P.proto = Q.proto) && decide (P.hop = Q.hop) && decide (P.cls = Q.cls) && decide (P.id = Q.id)) && (decide (P.off = Q.off) && (P.more == Q.more) && (P.still == Q.still) && decide (P.opts = Q.opts) && decide (P.flow = Q.flow))) && (P.cut == Q.cut) && decide (P.pay = Q.pay)))) := Hid.mk (by rw [HT.out, HRi.out, HE.out, Bool.true_and])
        go_upto_region 8 with (first | (refine wl_value rfl (exec_fpk 11 (by decide) rfl (by rfl)) ?_) | (refine wl_value rfl (exec_ld rfl (by rfl) (ldPx t1)) ?_))
        obtain ⟨v1, hv1⟩ : ∃ v1 : Value, .slice a1 i c1 = v1 := ⟨_, rfl⟩
        obtain ⟨v2, hv2⟩ : ∃ v2 : Value, .slice a2 i c2 = v2 := ⟨_, rfl⟩
        rw [hv1] at r1
        rw [hv2] at r2
        clear hv1 hv2
        have rr1 := r1
        have rr2 := r2
        refine wp_plain_steps (Below wr.heap.size wr) (fun v v' => Below v.heap.size v v') (fun j vv _ => vv = ((.pointer (some ⟨g1, 0, none⟩) :: .agg (SC 17 (adV P.sv P.sb)) :: .pointer (some ⟨g2, 0, none⟩) :: .agg (SC 17 (adV Q.sv Q.sb)) :: .bool (eqAF P.sv P.sb Q.sv Q.sb) :: .bool (eqAF P.sv P.sb Q.sv Q.sb) :: gv (eqAF P.sv P.sb Q.sv Q.sb) (.pointer (some ⟨g1, 17, none⟩)) :: gv (eqAF P.sv P.sb Q.sv Q.sb) (.agg (SC 17 (adV P.dv P.db))) :: gv (eqAF P.sv P.sb Q.sv Q.sb) (.pointer (some ⟨g2, 17, none⟩)) :: gv (eqAF P.sv P.sb Q.sv Q.sb) (.agg (SC 17 (adV Q.dv Q.db))) :: gv (eqAF P.sv P.sb Q.sv Q.sb) (.bool (eqAF P.dv P.db Q.dv Q.db)) :: .bool ((eqAF P.sv P.sb Q.sv Q.sb) && (eqAF P.dv P.db Q.dv Q.db)) :: .bool ((eqAF P.sv P.sb Q.sv Q.sb) && (eqAF P.dv P.db Q.dv Q.db)) :: gv ((eqAF P.sv P.sb Q.sv Q.sb) && (eqAF P.dv P.db Q.dv Q.db)) (.pointer (some ⟨g1, 34, none⟩)) :: gv ((eqAF P.sv P.sb Q.sv Q.sb) && (eqAF P.dv P.db Q.dv Q.db)) (.int .i64 P.proto) :: gv ((eqAF P.sv P.sb Q.sv Q.sb) && (eqAF P.dv P.db Q.dv Q.db)) (.pointer (some ⟨g2, 34, none⟩)) :: gv ((eqAF P.sv P.sb Q.sv Q.sb) && (eqAF P.dv P.db Q.dv Q.db)) (.int .i64 Q.proto) :: gv ((eqAF P.sv P.sb Q.sv Q.sb) && (eqAF P.dv P.db Q.dv Q.db)) (.bool (decide (P.proto = Q.proto))) :: .bool (((eqAF P.sv P.sb Q.sv Q.sb) && (eqAF P.dv P.db Q.dv Q.db)) && (decide (P.proto = Q.proto))) :: .bool (((eqAF P.sv P.sb Q.sv Q.sb) && (eqAF P.dv P.db Q.dv Q.db)) && (decide (P.proto = Q.proto))) :: gv (((eqAF P.sv P.sb Q.sv Q.sb) && (eqAF P.dv P.db Q.dv Q.db)) && (decide (P.proto = Q.proto))) (.pointer (some ⟨g1, 35, none⟩)) :: gv (((eqAF P.sv P.sb Q.sv Q.sb) && (eqAF P.dv P.db Q.dv Q.db)) && (decide (P.proto = Q.proto))) (.int .i64 P.hop) :: gv (((eqAF P.sv P.sb Q.sv Q.sb) && (eqAF P.dv P.db Q.dv Q.db)) && (decide (P.proto = Q.proto))) (.pointer (some ⟨g2, 35, none⟩)) :: gv (((eqAF P.sv P.sb Q.sv Q.sb) && (eqAF P.dv P.db Q.dv Q.db)) && (decide (P.proto = Q.proto))) (.int .i64 Q.hop) :: gv (((eqAF P.sv P.sb Q.sv Q.sb) && (eqAF P.dv P.db Q.dv Q.db)) && (decide (P.proto = Q.proto))) (.bool (decide (P.hop = Q.hop))) :: .bool ((((eqAF P.sv P.sb Q.sv Q.sb) && (eqAF P.dv P.db Q.dv Q.db)) && (decide (P.proto = Q.proto))) && (decide (P.hop = Q.hop))) :: .bool ((((eqAF P.sv P.sb Q.sv Q.sb) && (eqAF P.dv P.db Q.dv Q.db)) && (decide (P.proto = Q.proto))) && (decide (P.hop = Q.hop))) :: gv ((((eqAF P.sv P.sb Q.sv Q.sb) && (eqAF P.dv P.db Q.dv Q.db)) && (decide (P.proto = Q.proto))) && (decide (P.hop = Q.hop))) (.pointer (some ⟨g1, 36, none⟩)) :: gv ((((eqAF P.sv P.sb Q.sv Q.sb) && (eqAF P.dv P.db Q.dv Q.db)) && (decide (P.proto = Q.proto))) && (decide (P.hop = Q.hop))) (.int .i64 P.cls) :: gv ((((eqAF P.sv P.sb Q.sv Q.sb) && (eqAF P.dv P.db Q.dv Q.db)) && (decide (P.proto = Q.proto))) && (decide (P.hop = Q.hop))) (.pointer (some ⟨g2, 36, none⟩)) :: gv ((((eqAF P.sv P.sb Q.sv Q.sb) && (eqAF P.dv P.db Q.dv Q.db)) && (decide (P.proto = Q.proto))) && (decide (P.hop = Q.hop))) (.int .i64 Q.cls) :: gv ((((eqAF P.sv P.sb Q.sv Q.sb) && (eqAF P.dv P.db Q.dv Q.db)) && (decide (P.proto = Q.proto))) && (decide (P.hop = Q.hop))) (.bool (decide (P.cls = Q.cls))) :: .bool (((((eqAF P.sv P.sb Q.sv Q.sb) && (eqAF P.dv P.db Q.dv Q.db)) && (decide (P.proto = Q.proto))) && (decide (P.hop = Q.hop))) && (decide (P.cls = Q.cls))) :: .bool (((((eqAF P.sv P.sb Q.sv Q.sb) && (eqAF P.dv P.db Q.dv Q.db)) && (decide (P.proto = Q.proto))) && (decide (P.hop = Q.hop))) && (decide (P.cls = Q.cls))) :: gv (((((eqAF P.sv P.sb Q.sv Q.sb) && (eqAF P.dv P.db Q.dv Q.db)) && (decide (P.proto = Q.proto))) && (decide (P.hop = Q.hop))) && (decide (P.cls = Q.cls))) (.pointer (some ⟨g1, 37, none⟩)) :: gv (((((eqAF P.sv P.sb Q.sv Q.sb) && (eqAF P.dv P.db Q.dv Q.db)) && (decide (P.proto = Q.proto))) && (decide (P.hop = Q.hop))) && (decide (P.cls = Q.cls))) (.int .i64 P.id) :: gv (((((eqAF P.sv P.sb Q.sv Q.sb) && (eqAF P.dv P.db Q.dv Q.db)) && (decide (P.proto = Q.proto))) && (decide (P.hop = Q.hop))) && (decide (P.cls = Q.cls))) (.pointer (some ⟨g2, 37, none⟩)) :: gv (((((eqAF P.sv P.sb Q.sv Q.sb) && (eqAF P.dv P.db Q.dv Q.db)) && (decide (P.proto = Q.proto))) && (decide (P.hop = Q.hop))) && (decide (P.cls = Q.cls))) (.int .i64 Q.id) :: gv (((((eqAF P.sv P.sb Q.sv Q.sb) && (eqAF P.dv P.db Q.dv Q.db)) && (decide (P.proto = Q.proto))) && (decide (P.hop = Q.hop))) && (decide (P.cls = Q.cls))) (.bool (decide (P.id = Q.id))) :: .bool ((((((eqAF P.sv P.sb Q.sv Q.sb) && (eqAF P.dv P.db Q.dv Q.db)) && (decide (P.proto = Q.proto))) && (decide (P.hop = Q.hop))) && (decide (P.cls = Q.cls))) && (decide (P.id = Q.id))) :: .bool ((((((eqAF P.sv P.sb Q.sv Q.sb) && (eqAF P.dv P.db Q.dv Q.db)) && (decide (P.proto = Q.proto))) && (decide (P.hop = Q.hop))) && (decide (P.cls = Q.cls))) && (decide (P.id = Q.id))) :: []) : List Value).getD j undef)
            (33 :: 34 :: 35 :: 36 :: 37 :: 38 :: 39 :: 40 :: 41 :: 42 :: 43 :: 44 :: 45 :: 46 :: 47 :: 48 :: 49 :: 50 :: 51 :: 52 :: 53 :: 54 :: 55 :: 56 :: 57 :: 58 :: 59 :: 60 :: 61 :: 62 :: 63 :: 64 :: 65 :: 66 :: 67 :: 68 :: 69 :: 70 :: 71 :: 72 :: 6 :: [])
            [(2, .pointer (some ⟨g1, 0, none⟩)), (3, .pointer (some ⟨g2, 0, none⟩))] [] 0
            ([] :: [0] :: [] :: [2] :: [1, 3] :: [4] :: [5] :: [5, 6] :: [5] :: [5, 8] :: [5, 7, 9] :: [5, 10] :: [11] :: [12] :: [12, 13] :: [12] :: [12, 15] :: [12, 14, 16] :: [12, 17] :: [18] :: [19] :: [19, 20] :: [19] :: [19, 22] :: [19, 21, 23] :: [19, 24] :: [25] :: [26] :: [26, 27] :: [26] :: [26, 29] :: [26, 28, 30] :: [26, 31] :: [32] :: [33] :: [33, 34] :: [33] :: [33, 36] :: [33, 35, 37] :: [33, 38] :: [39] :: [])
            (by kernel_rfl) ⟨rfl, rfl, trivial⟩ trivial (Below.refl _ _) (fun v v' h hb => h.trans (hb.mono h.size)) (fun _ _ _ _ h _ => h)
            ⟨
            (fun QQ aa ww hS fr kn => sg0 rfl (fun K hK => wp_value (exec_fpk 0 (by decide) rfl fr.1) (hK _ _ rfl (Below.refl _ _)))),
            (fun QQ aa ww hS fr kn => sg0 rfl (fun K hK => wp_value (exec_ld rfl kn.1 (ld_src (SAt.kept r1 hS))) (hK _ _ rfl (Below.refl _ _)))),
            (fun QQ aa ww hS fr kn => sg0 rfl (fun K hK => wp_value (exec_fpk 0 (by decide) rfl fr.2.1) (hK _ _ rfl (Below.refl _ _)))),
            (fun QQ aa ww hS fr kn => sg0 rfl (fun K hK => wp_value (exec_ld rfl kn.1 (ld_src (SAt.kept r2 hS))) (hK _ _ rfl (Below.refl _ _)))),
            (fun QQ aa ww hS fr kn => sg0 rfl (fun K hK => wp_value (exec_eqA rfl kn.1 kn.2.1) (hK _ _ rfl (Below.refl _ _)))),
            (fun QQ aa ww hS fr kn => sg0 rfl (fun K hK => wp_value (exec_move rfl kn.1) (hK _ _ rfl (Below.refl _ _)))),
            (fun QQ aa ww hS fr kn => sgT rfl kn.1 (fun hc K hK => wp_value (exec_fpk 1 (by decide) rfl fr.1) (hK _ _ (gv_t hc).symm (Below.refl _ _))) (fun h0 => (gv_f h0).symm)),
            (fun QQ aa ww hS fr kn => sgT rfl kn.1 (fun hc K hK => wp_value (exec_ld rfl (kn.2.1.trans (gv_t hc)) (ld_dst (SAt.kept r1 hS))) (hK _ _ (gv_t hc).symm (Below.refl _ _))) (fun h0 => (gv_f h0).symm)),
            (fun QQ aa ww hS fr kn => sgT rfl kn.1 (fun hc K hK => wp_value (exec_fpk 1 (by decide) rfl fr.2.1) (hK _ _ (gv_t hc).symm (Below.refl _ _))) (fun h0 => (gv_f h0).symm)),
            (fun QQ aa ww hS fr kn => sgT rfl kn.1 (fun hc K hK => wp_value (exec_ld rfl (kn.2.1.trans (gv_t hc)) (ld_dst (SAt.kept r2 hS))) (hK _ _ (gv_t hc).symm (Below.refl _ _))) (fun h0 => (gv_f h0).symm)),
            (fun QQ aa ww hS fr kn => sgT rfl kn.1 (fun hc K hK => wp_value (exec_eqA rfl (kn.2.1.trans (gv_t hc)) (kn.2.2.1.trans (gv_t hc))) (hK _ _ (gv_t hc).symm (Below.refl _ _))) (fun h0 => (gv_f h0).symm)),
            (fun QQ aa ww hS fr kn => sg0 rfl (fun K hK => wp_value (exec_pickAnd rfl kn.1 (fun hx => kn.2.1.trans (gv_t hx)) rfl) (hK _ _ rfl (Below.refl _ _)))),
            (fun QQ aa ww hS fr kn => sg0 rfl (fun K hK => wp_value (exec_move rfl kn.1) (hK _ _ rfl (Below.refl _ _)))),
            (fun QQ aa ww hS fr kn => sgT rfl kn.1 (fun hc K hK => wp_value (exec_fpk 2 (by decide) rfl fr.1) (hK _ _ (gv_t hc).symm (Below.refl _ _))) (fun h0 => (gv_f h0).symm)),
            (fun QQ aa ww hS fr kn => sgT rfl kn.1 (fun hc K hK => wp_value (exec_ld rfl (kn.2.1.trans (gv_t hc)) (ldP (pk_proto (SAt.kept r1 hS)))) (hK _ _ (gv_t hc).symm (Below.refl _ _))) (fun h0 => (gv_f h0).symm)),
            (fun QQ aa ww hS fr kn => sgT rfl kn.1 (fun hc K hK => wp_value (exec_fpk 2 (by decide) rfl fr.2.1) (hK _ _ (gv_t hc).symm (Below.refl _ _))) (fun h0 => (gv_f h0).symm)),
            (fun QQ aa ww hS fr kn => sgT rfl kn.1 (fun hc K hK => wp_value (exec_ld rfl (kn.2.1.trans (gv_t hc)) (ldP (pk_proto (SAt.kept r2 hS)))) (hK _ _ (gv_t hc).symm (Below.refl _ _))) (fun h0 => (gv_f h0).symm)),
            (fun QQ aa ww hS fr kn => sgT rfl kn.1 (fun hc K hK => wp_value (cmp_eq (m := P.proto) (n := Q.proto) rfl (kn.2.1.trans (gv_t hc)) (kn.2.2.1.trans (gv_t hc))) (hK _ _ (gv_t hc).symm (Below.refl _ _))) (fun h0 => (gv_f h0).symm)),
            (fun QQ aa ww hS fr kn => sg0 rfl (fun K hK => wp_value (exec_pickAnd rfl kn.1 (fun hx => kn.2.1.trans (gv_t hx)) rfl) (hK _ _ rfl (Below.refl _ _)))),
            (fun QQ aa ww hS fr kn => sg0 rfl (fun K hK => wp_value (exec_move rfl kn.1) (hK _ _ rfl (Below.refl _ _)))),
            (fun QQ aa ww hS fr kn => sgT rfl kn.1 (fun hc K hK => wp_value (exec_fpk 3 (by decide) rfl fr.1) (hK _ _ (gv_t hc).symm (Below.refl _ _))) (fun h0 => (gv_f h0).symm)),
            (fun QQ aa ww hS fr kn => sgT rfl kn.1 (fun hc K hK => wp_value (exec_ld rfl (kn.2.1.trans (gv_t hc)) (ldP (pk_hop (SAt.kept r1 hS)))) (hK _ _ (gv_t hc).symm (Below.refl _ _))) (fun h0 => (gv_f h0).symm)),
            (fun QQ aa ww hS fr kn => sgT rfl kn.1 (fun hc K hK => wp_value (exec_fpk 3 (by decide) rfl fr.2.1) (hK _ _ (gv_t hc).symm (Below.refl _ _))) (fun h0 => (gv_f h0).symm)),
            (fun QQ aa ww hS fr kn => sgT rfl kn.1 (fun hc K hK => wp_value (exec_ld rfl (kn.2.1.trans (gv_t hc)) (ldP (pk_hop (SAt.kept r2 hS)))) (hK _ _ (gv_t hc).symm (Below.refl _ _))) (fun h0 => (gv_f h0).symm)),
            (fun QQ aa ww hS fr kn => sgT rfl kn.1 (fun hc K hK => wp_value (cmp_eq (m := P.hop) (n := Q.hop) rfl (kn.2.1.trans (gv_t hc)) (kn.2.2.1.trans (gv_t hc))) (hK _ _ (gv_t hc).symm (Below.refl _ _))) (fun h0 => (gv_f h0).symm)),
            (fun QQ aa ww hS fr kn => sg0 rfl (fun K hK => wp_value (exec_pickAnd rfl kn.1 (fun hx => kn.2.1.trans (gv_t hx)) rfl) (hK _ _ rfl (Below.refl _ _)))),
            (fun QQ aa ww hS fr kn => sg0 rfl (fun K hK => wp_value (exec_move rfl kn.1) (hK _ _ rfl (Below.refl _ _)))),
            (fun QQ aa ww hS fr kn => sgT rfl kn.1 (fun hc K hK => wp_value (exec_fpk 4 (by decide) rfl fr.1) (hK _ _ (gv_t hc).symm (Below.refl _ _))) (fun h0 => (gv_f h0).symm)),
            (fun QQ aa ww hS fr kn => sgT rfl kn.1 (fun hc K hK => wp_value (exec_ld rfl (kn.2.1.trans (gv_t hc)) (ldP (pk_cls (SAt.kept r1 hS)))) (hK _ _ (gv_t hc).symm (Below.refl _ _))) (fun h0 => (gv_f h0).symm)),
            (fun QQ aa ww hS fr kn => sgT rfl kn.1 (fun hc K hK => wp_value (exec_fpk 4 (by decide) rfl fr.2.1) (hK _ _ (gv_t hc).symm (Below.refl _ _))) (fun h0 => (gv_f h0).symm)),
            (fun QQ aa ww hS fr kn => sgT rfl kn.1 (fun hc K hK => wp_value (exec_ld rfl (kn.2.1.trans (gv_t hc)) (ldP (pk_cls (SAt.kept r2 hS)))) (hK _ _ (gv_t hc).symm (Below.refl _ _))) (fun h0 => (gv_f h0).symm)),
            (fun QQ aa ww hS fr kn => sgT rfl kn.1 (fun hc K hK => wp_value (cmp_eq (m := P.cls) (n := Q.cls) rfl (kn.2.1.trans (gv_t hc)) (kn.2.2.1.trans (gv_t hc))) (hK _ _ (gv_t hc).symm (Below.refl _ _))) (fun h0 => (gv_f h0).symm)),
            (fun QQ aa ww hS fr kn => sg0 rfl (fun K hK => wp_value (exec_pickAnd rfl kn.1 (fun hx => kn.2.1.trans (gv_t hx)) rfl) (hK _ _ rfl (Below.refl _ _)))),
            (fun QQ aa ww hS fr kn => sg0 rfl (fun K hK => wp_value (exec_move rfl kn.1) (hK _ _ rfl (Below.refl _ _)))),
            (fun QQ aa ww hS fr kn => sgT rfl kn.1 (fun hc K hK => wp_value (exec_fpk 5 (by decide) rfl fr.1) (hK _ _ (gv_t hc).symm (Below.refl _ _))) (fun h0 => (gv_f h0).symm)),
            (fun QQ aa ww hS fr kn => sgT rfl kn.1 (fun hc K hK => wp_value (exec_ld rfl (kn.2.1.trans (gv_t hc)) (ldP (pk_id (SAt.kept r1 hS)))) (hK _ _ (gv_t hc).symm (Below.refl _ _))) (fun h0 => (gv_f h0).symm)),
            (fun QQ aa ww hS fr kn => sgT rfl kn.1 (fun hc K hK => wp_value (exec_fpk 5 (by decide) rfl fr.2.1) (hK _ _ (gv_t hc).symm (Below.refl _ _))) (fun h0 => (gv_f h0).symm)),
            (fun QQ aa ww hS fr kn => sgT rfl kn.1 (fun hc K hK => wp_value (exec_ld rfl (kn.2.1.trans (gv_t hc)) (ldP (pk_id (SAt.kept r2 hS)))) (hK _ _ (gv_t hc).symm (Below.refl _ _))) (fun h0 => (gv_f h0).symm)),
            (fun QQ aa ww hS fr kn => sgT rfl kn.1 (fun hc K hK => wp_value (cmp_eq (m := P.id) (n := Q.id) rfl (kn.2.1.trans (gv_t hc)) (kn.2.2.1.trans (gv_t hc))) (hK _ _ (gv_t hc).symm (Below.refl _ _))) (fun h0 => (gv_f h0).symm)),
            (fun QQ aa ww hS fr kn => sg0 rfl (fun K hK => wp_value (exec_pickAnd rfl kn.1 (fun hx => kn.2.1.trans (gv_t hx)) rfl) (hK _ _ rfl (Below.refl _ _)))),
            (fun QQ aa ww hS fr kn => sg0 rfl (fun K hK => wp_value (exec_assign rfl kn.1) (hK _ _ rfl (Below.refl _ _)))),
            trivial⟩ ?_
        intro vs z2 hB3 kn
        have e6 : vs 6 = .bool ((((((eqAF P.sv P.sb Q.sv Q.sb) && (eqAF P.dv P.db Q.dv Q.db)) && (decide (P.proto = Q.proto))) && (decide (P.hop = Q.hop))) && (decide (P.cls = Q.cls))) && (decide (P.id = Q.id))) := kn 40 (by decide)
        clear kn
        simp only [putAll, Act.put, List.setIfInBounds_toArray, List.set_cons_zero, List.set_cons_succ, e6]
        clear e6
        replace r1 := SAt.kept rr1 hB3
        replace r2 := SAt.kept rr2 hB3
        obtain ⟨X, hX⟩ : ∃ X, (eqAF P.sv P.sb Q.sv Q.sb && eqAF P.dv P.db Q.dv Q.db && decide (P.proto = Q.proto) && decide (P.hop = Q.hop) && decide (P.cls = Q.cls) && decide (P.id = Q.id)) = X := ⟨_, rfl⟩
        rw [hX] at HQ ⊢
        go_upto_region 9 with fail
        refine wp_plain_steps (Below z2.heap.size z2) (fun v v' => Below v.heap.size v v') (fun j vv _ => vv = ((.pointer (some ⟨g1, 38, none⟩) :: .int .i64 P.off :: .pointer (some ⟨g2, 38, none⟩) :: .int .i64 Q.off :: .bool (decide (P.off = Q.off)) :: .bool (decide (P.off = Q.off)) :: gv (decide (P.off = Q.off)) (.pointer (some ⟨g1, 39, none⟩)) :: gv (decide (P.off = Q.off)) (.bool P.more) :: gv (decide (P.off = Q.off)) (.pointer (some ⟨g2, 39, none⟩)) :: gv (decide (P.off = Q.off)) (.bool Q.more) :: gv (decide (P.off = Q.off)) (.bool (P.more == Q.more)) :: .bool ((decide (P.off = Q.off)) && (P.more == Q.more)) :: .bool ((decide (P.off = Q.off)) && (P.more == Q.more)) :: gv ((decide (P.off = Q.off)) && (P.more == Q.more)) (.pointer (some ⟨g1, 40, none⟩)) :: gv ((decide (P.off = Q.off)) && (P.more == Q.more)) (.bool P.still) :: gv ((decide (P.off = Q.off)) && (P.more == Q.more)) (.pointer (some ⟨g2, 40, none⟩)) :: gv ((decide (P.off = Q.off)) && (P.more == Q.more)) (.bool Q.still) :: gv ((decide (P.off = Q.off)) && (P.more == Q.more)) (.bool (P.still == Q.still)) :: .bool (((decide (P.off = Q.off)) && (P.more == Q.more)) && (P.still == Q.still)) :: .bool (((decide (P.off = Q.off)) && (P.more == Q.more)) && (P.still == Q.still)) :: gv (((decide (P.off = Q.off)) && (P.more == Q.more)) && (P.still == Q.still)) (.pointer (some ⟨g1, 41, none⟩)) :: gv (((decide (P.off = Q.off)) && (P.more == Q.more)) && (P.still == Q.still)) (.string P.opts) :: gv (((decide (P.off = Q.off)) && (P.more == Q.more)) && (P.still == Q.still)) (.pointer (some ⟨g2, 41, none⟩)) :: gv (((decide (P.off = Q.off)) && (P.more == Q.more)) && (P.still == Q.still)) (.string Q.opts) :: gv (((decide (P.off = Q.off)) && (P.more == Q.more)) && (P.still == Q.still)) (.bool (decide (P.opts = Q.opts))) :: .bool ((((decide (P.off = Q.off)) && (P.more == Q.more)) && (P.still == Q.still)) && (decide (P.opts = Q.opts))) :: .bool ((((decide (P.off = Q.off)) && (P.more == Q.more)) && (P.still == Q.still)) && (decide (P.opts = Q.opts))) :: gv ((((decide (P.off = Q.off)) && (P.more == Q.more)) && (P.still == Q.still)) && (decide (P.opts = Q.opts))) (.pointer (some ⟨g1, 42, none⟩)) :: gv ((((decide (P.off = Q.off)) && (P.more == Q.more)) && (P.still == Q.still)) && (decide (P.opts = Q.opts))) (.int .i64 P.flow) :: gv ((((decide (P.off = Q.off)) && (P.more == Q.more)) && (P.still == Q.still)) && (decide (P.opts = Q.opts))) (.pointer (some ⟨g2, 42, none⟩)) :: gv ((((decide (P.off = Q.off)) && (P.more == Q.more)) && (P.still == Q.still)) && (decide (P.opts = Q.opts))) (.int .i64 Q.flow) :: gv ((((decide (P.off = Q.off)) && (P.more == Q.more)) && (P.still == Q.still)) && (decide (P.opts = Q.opts))) (.bool (decide (P.flow = Q.flow))) :: .bool (((((decide (P.off = Q.off)) && (P.more == Q.more)) && (P.still == Q.still)) && (decide (P.opts = Q.opts))) && (decide (P.flow = Q.flow))) :: .bool (((((decide (P.off = Q.off)) && (P.more == Q.more)) && (P.still == Q.still)) && (decide (P.opts = Q.opts))) && (decide (P.flow = Q.flow))) :: []) : List Value).getD j undef)
            (73 :: 74 :: 75 :: 76 :: 77 :: 78 :: 79 :: 80 :: 81 :: 82 :: 83 :: 84 :: 85 :: 86 :: 87 :: 88 :: 89 :: 90 :: 91 :: 92 :: 93 :: 94 :: 95 :: 96 :: 97 :: 98 :: 99 :: 100 :: 101 :: 102 :: 103 :: 104 :: 105 :: 7 :: [])
            [(2, .pointer (some ⟨g1, 0, none⟩)), (3, .pointer (some ⟨g2, 0, none⟩))] [] 0
            ([] :: [0] :: [] :: [2] :: [1, 3] :: [4] :: [5] :: [5, 6] :: [5] :: [5, 8] :: [5, 7, 9] :: [5, 10] :: [11] :: [12] :: [12, 13] :: [12] :: [12, 15] :: [12, 14, 16] :: [12, 17] :: [18] :: [19] :: [19, 20] :: [19] :: [19, 22] :: [19, 21, 23] :: [19, 24] :: [25] :: [26] :: [26, 27] :: [26] :: [26, 29] :: [26, 28, 30] :: [26, 31] :: [32] :: [])
            (by kernel_rfl) ⟨rfl, rfl, trivial⟩ trivial (Below.refl _ _) (fun v v' h hb => h.trans (hb.mono h.size)) (fun _ _ _ _ h _ => h)
            ⟨
            (fun QQ aa ww hS fr kn => sg0 rfl (fun K hK => wp_value (exec_fpk 6 (by decide) rfl fr.1) (hK _ _ rfl (Below.refl _ _)))),
            (fun QQ aa ww hS fr kn => sg0 rfl (fun K hK => wp_value (exec_ld rfl kn.1 (ldP (pk_off (SAt.kept r1 hS)))) (hK _ _ rfl (Below.refl _ _)))),
            (fun QQ aa ww hS fr kn => sg0 rfl (fun K hK => wp_value (exec_fpk 6 (by decide) rfl fr.2.1) (hK _ _ rfl (Below.refl _ _)))),
            (fun QQ aa ww hS fr kn => sg0 rfl (fun K hK => wp_value (exec_ld rfl kn.1 (ldP (pk_off (SAt.kept r2 hS)))) (hK _ _ rfl (Below.refl _ _)))),
            (fun QQ aa ww hS fr kn => sg0 rfl (fun K hK => wp_value (cmp_eq (m := P.off) (n := Q.off) rfl kn.1 kn.2.1) (hK _ _ rfl (Below.refl _ _)))),
            (fun QQ aa ww hS fr kn => sg0 rfl (fun K hK => wp_value (exec_move rfl kn.1) (hK _ _ rfl (Below.refl _ _)))),
            (fun QQ aa ww hS fr kn => sgT rfl kn.1 (fun hc K hK => wp_value (exec_fpk 7 (by decide) rfl fr.1) (hK _ _ (gv_t hc).symm (Below.refl _ _))) (fun h0 => (gv_f h0).symm)),
            (fun QQ aa ww hS fr kn => sgT rfl kn.1 (fun hc K hK => wp_value (exec_ld rfl (kn.2.1.trans (gv_t hc)) (ldPb (pk_more (SAt.kept r1 hS)))) (hK _ _ (gv_t hc).symm (Below.refl _ _))) (fun h0 => (gv_f h0).symm)),
            (fun QQ aa ww hS fr kn => sgT rfl kn.1 (fun hc K hK => wp_value (exec_fpk 7 (by decide) rfl fr.2.1) (hK _ _ (gv_t hc).symm (Below.refl _ _))) (fun h0 => (gv_f h0).symm)),
            (fun QQ aa ww hS fr kn => sgT rfl kn.1 (fun hc K hK => wp_value (exec_ld rfl (kn.2.1.trans (gv_t hc)) (ldPb (pk_more (SAt.kept r2 hS)))) (hK _ _ (gv_t hc).symm (Below.refl _ _))) (fun h0 => (gv_f h0).symm)),
            (fun QQ aa ww hS fr kn => sgT rfl kn.1 (fun hc K hK => wp_value (cmp_eqB rfl (kn.2.1.trans (gv_t hc)) (kn.2.2.1.trans (gv_t hc))) (hK _ _ (gv_t hc).symm (Below.refl _ _))) (fun h0 => (gv_f h0).symm)),
            (fun QQ aa ww hS fr kn => sg0 rfl (fun K hK => wp_value (exec_pickAnd rfl kn.1 (fun hx => kn.2.1.trans (gv_t hx)) rfl) (hK _ _ rfl (Below.refl _ _)))),
            (fun QQ aa ww hS fr kn => sg0 rfl (fun K hK => wp_value (exec_move rfl kn.1) (hK _ _ rfl (Below.refl _ _)))),
            (fun QQ aa ww hS fr kn => sgT rfl kn.1 (fun hc K hK => wp_value (exec_fpk 8 (by decide) rfl fr.1) (hK _ _ (gv_t hc).symm (Below.refl _ _))) (fun h0 => (gv_f h0).symm)),
            (fun QQ aa ww hS fr kn => sgT rfl kn.1 (fun hc K hK => wp_value (exec_ld rfl (kn.2.1.trans (gv_t hc)) (ldPb (pk_still (SAt.kept r1 hS)))) (hK _ _ (gv_t hc).symm (Below.refl _ _))) (fun h0 => (gv_f h0).symm)),
            (fun QQ aa ww hS fr kn => sgT rfl kn.1 (fun hc K hK => wp_value (exec_fpk 8 (by decide) rfl fr.2.1) (hK _ _ (gv_t hc).symm (Below.refl _ _))) (fun h0 => (gv_f h0).symm)),
            (fun QQ aa ww hS fr kn => sgT rfl kn.1 (fun hc K hK => wp_value (exec_ld rfl (kn.2.1.trans (gv_t hc)) (ldPb (pk_still (SAt.kept r2 hS)))) (hK _ _ (gv_t hc).symm (Below.refl _ _))) (fun h0 => (gv_f h0).symm)),
            (fun QQ aa ww hS fr kn => sgT rfl kn.1 (fun hc K hK => wp_value (cmp_eqB rfl (kn.2.1.trans (gv_t hc)) (kn.2.2.1.trans (gv_t hc))) (hK _ _ (gv_t hc).symm (Below.refl _ _))) (fun h0 => (gv_f h0).symm)),
            (fun QQ aa ww hS fr kn => sg0 rfl (fun K hK => wp_value (exec_pickAnd rfl kn.1 (fun hx => kn.2.1.trans (gv_t hx)) rfl) (hK _ _ rfl (Below.refl _ _)))),
            (fun QQ aa ww hS fr kn => sg0 rfl (fun K hK => wp_value (exec_move rfl kn.1) (hK _ _ rfl (Below.refl _ _)))),
            (fun QQ aa ww hS fr kn => sgT rfl kn.1 (fun hc K hK => wp_value (exec_fpk 9 (by decide) rfl fr.1) (hK _ _ (gv_t hc).symm (Below.refl _ _))) (fun h0 => (gv_f h0).symm)),
            (fun QQ aa ww hS fr kn => sgT rfl kn.1 (fun hc K hK => wp_value (exec_ld rfl (kn.2.1.trans (gv_t hc)) (ldPs (pk_opts (SAt.kept r1 hS)))) (hK _ _ (gv_t hc).symm (Below.refl _ _))) (fun h0 => (gv_f h0).symm)),
            (fun QQ aa ww hS fr kn => sgT rfl kn.1 (fun hc K hK => wp_value (exec_fpk 9 (by decide) rfl fr.2.1) (hK _ _ (gv_t hc).symm (Below.refl _ _))) (fun h0 => (gv_f h0).symm)),
            (fun QQ aa ww hS fr kn => sgT rfl kn.1 (fun hc K hK => wp_value (exec_ld rfl (kn.2.1.trans (gv_t hc)) (ldPs (pk_opts (SAt.kept r2 hS)))) (hK _ _ (gv_t hc).symm (Below.refl _ _))) (fun h0 => (gv_f h0).symm)),
            (fun QQ aa ww hS fr kn => sgT rfl kn.1 (fun hc K hK => wp_value (exec_eqSd (s := P.opts) (t := Q.opts) rfl (kn.2.1.trans (gv_t hc)) (kn.2.2.1.trans (gv_t hc))) (hK _ _ (gv_t hc).symm (Below.refl _ _))) (fun h0 => (gv_f h0).symm)),
            (fun QQ aa ww hS fr kn => sg0 rfl (fun K hK => wp_value (exec_pickAnd rfl kn.1 (fun hx => kn.2.1.trans (gv_t hx)) rfl) (hK _ _ rfl (Below.refl _ _)))),
            (fun QQ aa ww hS fr kn => sg0 rfl (fun K hK => wp_value (exec_move rfl kn.1) (hK _ _ rfl (Below.refl _ _)))),
            (fun QQ aa ww hS fr kn => sgT rfl kn.1 (fun hc K hK => wp_value (exec_fpk 10 (by decide) rfl fr.1) (hK _ _ (gv_t hc).symm (Below.refl _ _))) (fun h0 => (gv_f h0).symm)),
            (fun QQ aa ww hS fr kn => sgT rfl kn.1 (fun hc K hK => wp_value (exec_ld rfl (kn.2.1.trans (gv_t hc)) (ldP (pk_flow (SAt.kept r1 hS)))) (hK _ _ (gv_t hc).symm (Below.refl _ _))) (fun h0 => (gv_f h0).symm)),
            (fun QQ aa ww hS fr kn => sgT rfl kn.1 (fun hc K hK => wp_value (exec_fpk 10 (by decide) rfl fr.2.1) (hK _ _ (gv_t hc).symm (Below.refl _ _))) (fun h0 => (gv_f h0).symm)),
            (fun QQ aa ww hS fr kn => sgT rfl kn.1 (fun hc K hK => wp_value (exec_ld rfl (kn.2.1.trans (gv_t hc)) (ldP (pk_flow (SAt.kept r2 hS)))) (hK _ _ (gv_t hc).symm (Below.refl _ _))) (fun h0 => (gv_f h0).symm)),
            (fun QQ aa ww hS fr kn => sgT rfl kn.1 (fun hc K hK => wp_value (cmp_eq (m := P.flow) (n := Q.flow) rfl (kn.2.1.trans (gv_t hc)) (kn.2.2.1.trans (gv_t hc))) (hK _ _ (gv_t hc).symm (Below.refl _ _))) (fun h0 => (gv_f h0).symm)),
            (fun QQ aa ww hS fr kn => sg0 rfl (fun K hK => wp_value (exec_pickAnd rfl kn.1 (fun hx => kn.2.1.trans (gv_t hx)) rfl) (hK _ _ rfl (Below.refl _ _)))),
            (fun QQ aa ww hS fr kn => sg0 rfl (fun K hK => wp_value (exec_assign rfl kn.1) (hK _ _ rfl (Below.refl _ _)))),
            trivial⟩ ?_
        intro vs z3 hB4 kn
        have e7 : vs 7 = .bool (((((decide (P.off = Q.off)) && (P.more == Q.more)) && (P.still == Q.still)) && (decide (P.opts = Q.opts))) && (decide (P.flow = Q.flow))) := kn 33 (by decide)
        clear kn
        simp only [putAll, Act.put, List.setIfInBounds_toArray, List.set_cons_zero, List.set_cons_succ, e7]
        clear e7
        replace r1 := SAt.kept r1 hB4
        replace r2 := SAt.kept r2 hB4
        obtain ⟨Y, hY⟩ : ∃ Y, (decide (P.off = Q.off) && (P.more == Q.more) && (P.still == Q.still) && decide (P.opts = Q.opts) && decide (P.flow = Q.flow)) = Y := ⟨_, rfl⟩
        rw [hY] at HQ ⊢
        go_upto_region 10 with fail
        refine wp_plain_steps (Below z3.heap.size z3) (fun v v' => Below v.heap.size v v') (fun j vv _ => vv = ([.bool X, .bool X, gv X (.bool Y), .bool (X && Y), .bool (X && Y), gv (X && Y) (.pointer (some ⟨g1, 44, none⟩)), gv (X && Y) (.bool P.cut), gv (X && Y) (.pointer (some ⟨g2, 44, none⟩)), gv (X && Y) (.bool Q.cut), gv (X && Y) (.bool (P.cut == Q.cut)), .bool ((X && Y) && (P.cut == Q.cut)), .bool ((X && Y) && (P.cut == Q.cut)), gv ((X && Y) && (P.cut == Q.cut)) (.pointer (some ⟨g1, 45, none⟩)), gv ((X && Y) && (P.cut == Q.cut)) (.string P.pay), gv ((X && Y) && (P.cut == Q.cut)) (.pointer (some ⟨g2, 45, none⟩)), gv ((X && Y) && (P.cut == Q.cut)) (.string Q.pay), gv ((X && Y) && (P.cut == Q.cut)) (.bool (decide (P.pay = Q.pay))), .bool (((X && Y) && (P.cut == Q.cut)) && (decide (P.pay = Q.pay))), .bool (((X && Y) && (P.cut == Q.cut)) && (decide (P.pay = Q.pay)))] : List Value).getD j undef)
            [106, 107, 108, 109, 110, 111, 112, 113, 114, 115, 116, 117, 118, 119, 120, 121, 122, 123, 4]
            [(6, .bool X), (7, .bool Y), (2, .pointer (some ⟨g1, 0, none⟩)), (3, .pointer (some ⟨g2, 0, none⟩))] [] 0
            [[], [0], [1], [1, 2], [3], [4], [4, 5], [4], [4, 7], [4, 6, 8], [4, 9], [10], [11], [11, 12], [11], [11, 14], [11, 13, 15], [11, 16], [17]]
            (by kernel_rfl) ⟨rfl, rfl, rfl, rfl, trivial⟩ trivial (Below.refl _ _) (fun v v' h hb => h.trans (hb.mono h.size)) (fun _ _ _ _ h _ => h)
            ⟨
            (fun QQ aa ww hS fr kn => sg0 rfl (fun K hK => wp_value (exec_move rfl fr.1) (hK _ _ rfl (Below.refl _ _)))),
            (fun QQ aa ww hS fr kn => sg0 rfl (fun K hK => wp_value (exec_move rfl kn.1) (hK _ _ rfl (Below.refl _ _)))),
            (fun QQ aa ww hS fr kn => sgT rfl kn.1 (fun hc K hK => wp_value (exec_move rfl fr.2.1) (hK _ _ (gv_t hc).symm (Below.refl _ _))) (fun h0 => (gv_f h0).symm)),
            (fun QQ aa ww hS fr kn => sg0 rfl (fun K hK => wp_value (exec_pickAnd rfl kn.1 (fun hx => kn.2.1.trans (gv_t hx)) rfl) (hK _ _ rfl (Below.refl _ _)))),
            (fun QQ aa ww hS fr kn => sg0 rfl (fun K hK => wp_value (exec_move rfl kn.1) (hK _ _ rfl (Below.refl _ _)))),
            (fun QQ aa ww hS fr kn => sgT rfl kn.1 (fun hc K hK => wp_value (exec_fpk 12 (by decide) rfl fr.2.2.1) (hK _ _ (gv_t hc).symm (Below.refl _ _))) (fun h0 => (gv_f h0).symm)),
            (fun QQ aa ww hS fr kn => sgT rfl kn.1 (fun hc K hK => wp_value (exec_ld rfl (kn.2.1.trans (gv_t hc)) (ldPb (pk_cut (SAt.kept r1 hS)))) (hK _ _ (gv_t hc).symm (Below.refl _ _))) (fun h0 => (gv_f h0).symm)),
            (fun QQ aa ww hS fr kn => sgT rfl kn.1 (fun hc K hK => wp_value (exec_fpk 12 (by decide) rfl fr.2.2.2.1) (hK _ _ (gv_t hc).symm (Below.refl _ _))) (fun h0 => (gv_f h0).symm)),
            (fun QQ aa ww hS fr kn => sgT rfl kn.1 (fun hc K hK => wp_value (exec_ld rfl (kn.2.1.trans (gv_t hc)) (ldPb (pk_cut (SAt.kept r2 hS)))) (hK _ _ (gv_t hc).symm (Below.refl _ _))) (fun h0 => (gv_f h0).symm)),
            (fun QQ aa ww hS fr kn => sgT rfl kn.1 (fun hc K hK => wp_value (cmp_eqB rfl (kn.2.1.trans (gv_t hc)) (kn.2.2.1.trans (gv_t hc))) (hK _ _ (gv_t hc).symm (Below.refl _ _))) (fun h0 => (gv_f h0).symm)),
            (fun QQ aa ww hS fr kn => sg0 rfl (fun K hK => wp_value (exec_pickAnd rfl kn.1 (fun hx => kn.2.1.trans (gv_t hx)) rfl) (hK _ _ rfl (Below.refl _ _)))),
            (fun QQ aa ww hS fr kn => sg0 rfl (fun K hK => wp_value (exec_move rfl kn.1) (hK _ _ rfl (Below.refl _ _)))),
            (fun QQ aa ww hS fr kn => sgT rfl kn.1 (fun hc K hK => wp_value (exec_fpk 13 (by decide) rfl fr.2.2.1) (hK _ _ (gv_t hc).symm (Below.refl _ _))) (fun h0 => (gv_f h0).symm)),
            (fun QQ aa ww hS fr kn => sgT rfl kn.1 (fun hc K hK => wp_value (exec_ld rfl (kn.2.1.trans (gv_t hc)) (ldPs (pk_pay (SAt.kept r1 hS)))) (hK _ _ (gv_t hc).symm (Below.refl _ _))) (fun h0 => (gv_f h0).symm)),
            (fun QQ aa ww hS fr kn => sgT rfl kn.1 (fun hc K hK => wp_value (exec_fpk 13 (by decide) rfl fr.2.2.2.1) (hK _ _ (gv_t hc).symm (Below.refl _ _))) (fun h0 => (gv_f h0).symm)),
            (fun QQ aa ww hS fr kn => sgT rfl kn.1 (fun hc K hK => wp_value (exec_ld rfl (kn.2.1.trans (gv_t hc)) (ldPs (pk_pay (SAt.kept r2 hS)))) (hK _ _ (gv_t hc).symm (Below.refl _ _))) (fun h0 => (gv_f h0).symm)),
            (fun QQ aa ww hS fr kn => sgT rfl kn.1 (fun hc K hK => wp_value (exec_eqSd (s := P.pay) (t := Q.pay) rfl (kn.2.1.trans (gv_t hc)) (kn.2.2.1.trans (gv_t hc))) (hK _ _ (gv_t hc).symm (Below.refl _ _))) (fun h0 => (gv_f h0).symm)),
            (fun QQ aa ww hS fr kn => sg0 rfl (fun K hK => wp_value (exec_pickAnd rfl kn.1 (fun hx => kn.2.1.trans (gv_t hx)) rfl) (hK _ _ rfl (Below.refl _ _)))),
            (fun QQ aa ww hS fr kn => sg0 rfl (fun K hK => wp_value (exec_assign rfl kn.1) (hK _ _ rfl (Below.refl _ _)))),
            trivial⟩ ?_
        intro vs z4 hB5 kn
        have e4 : vs 4 = .bool (((X && Y) && (P.cut == Q.cut)) && (decide (P.pay = Q.pay))) := kn 18 (by decide)
        clear kn
        simp only [putAll, Act.put, List.setIfInBounds_toArray, List.set_cons_zero, List.set_cons_succ, e4]
        clear e4
        go_wp2_with fail
        go_ret
        have hBy := hBz.trans (hB3.mono hBz.size)
        have hBx := hBy.trans (hB4.mono hBy.size)
        have hBw := hBx.trans (hB5.mono hBx.size)
        exact ⟨by rw [HQ.out]; rfl, hB2.trans (hBw.mono hB2.size)⟩
  · have hr : r = false := by rw [HT.out, exEq_len he]; rfl
    have hei : ¬ (P.exts.length : Int) = (Q.exts.length : Int) := by omega
    go_wp2_with (first | (refine wl_value rfl (exec_fpk 11 (by decide) rfl (by rfl)) ?_) | (refine wl_value rfl (exec_ld rfl (by rfl) (ldPx s1)) ?_) | (refine wl_value rfl (exec_ld rfl (by rfl) (ldPx s2)) ?_))
    go_ret
    exact ⟨by rw [hr]; rfl, hB2⟩
end Go.Proofs.Ytdlepeogmjmleaa
/-
  Own text. What was built is read again as the packet that it was.
-/
namespace Go.Proofs.Ytdlepeogmjmleaa
open Go.RowKit Go.Proofs
set_option maxRecDepth 100000
/-- The numbers of a packet that may be. -/
structure PkOk (P : Pk) : Prop where
  sb : Byts 16 P.sb
  db : Byts 16 P.db
theorem bN_lt (b : Bool) (n : Nat) : bN b n ≤ n := by unfold bN; split <;> omega
theorem exB_size {P : Pk} : ∀ {l : List Ex} {i : Nat}, exsOk l i = true → (exB P l).size = exLen l + (if P.cut = true then 8 else 0)
  | [], _, _ => by
    unfold exB exLen cuB
    split
    · simp only [ByteArray.size_append, putT_size]
    · rw [ByteArray.size_empty]
  | x :: l, i, h => by
    unfold exsOk at h
    rw [Bool.and_eq_true] at h
    have := exB_size (P := P) h.2
    unfold exB exLen
    simp only [ByteArray.size_append, putT_size, this]
    omega
theorem exsOk_kind {P : Pk} (hp : isHd P.proto = false) : ∀ {l : List Ex} {i : Nat}, exsOk l i = true → (0 ≤ P.proto ∧ P.proto ≤ 255) → 0 ≤ nextK P l ∧ nextK P l ≤ 255 ∧ (l = [] → isHd (nextK P l) = P.cut)
  | [], _, _, hb => by
    unfold nextK tailK
    cases hc : P.cut
    · simp [hp, hb]
    · simp; decide
  | x :: l, i, h, _ => by
    unfold exsOk at h
    rw [Bool.and_eq_true, exOk_iff] at h
    have e : nextK P (x :: l) = x.kind := rfl
    rw [e]
    exact ⟨by omega, by omega, fun h => by cases h⟩
theorem exsOk_len : ∀ {l : List Ex} {i : Nat}, exsOk l i = true → l = [] ∨ i + l.length ≤ 4
  | [], _, _ => .inl rfl
  | x :: l, i, h => by
    unfold exsOk at h
    rw [Bool.and_eq_true, exOk_iff] at h
    rcases exsOk_len h.2 with e | e
    · subst e
      right
      simp
      omega
    · right
      simp
      omega
/-- The headers behind the first one are read again. -/
theorem rdEx_exB {P p : Pk} (hp : isHd P.proto = false) (hb : 0 ≤ P.proto ∧ P.proto ≤ 255) (ho : 0 ≤ P.off ∧ P.off ≤ 65528) (ho8 : P.off % 8 = 0) (hid : 0 ≤ P.id ∧ P.id ≤ 4294967295) (hpc : p.cut = false) (hpo : p.off = 0) (hpm : p.more = false) (hpi : p.id = 0) (hcut : P.cut = true ∨ (P.id = 0 ∧ P.off = 0 ∧ P.more = false)) :
    ∀ (l acc : List Ex) (n : Nat), exsOk l acc.length = true → l.length < n → rdEx p n acc (nextK P l) (exB P l ++ P.pay) = .ok { p with exts := acc ++ l, cut := P.cut, off := P.off, more := P.more, id := P.id, proto := P.proto, pay := P.pay }
  | [], acc, n + 1, _, _ => by
    unfold rdEx nextK tailK exB
    rw [List.append_nil]
    cases hc : P.cut
    · simp only [Bool.false_eq_true, if_false, hp, if_true]
      rcases hcut with h | ⟨h1, h2, h3⟩
      · rw [hc] at h; cases h
      · rw [empty_app, h1, h2, h3]
        cases p
        simp only at hpc hpo hpm hpi
        subst hpc hpo hpm hpi
        rfl
    · simp only [if_true]
      have e44 : isHd 44 = true := by decide
      have zc : (cuB P).size = 8 := by unfold cuB; simp only [ByteArray.size_append, putT_size]
      have hm1 := bN_lt P.more 1
      have t0 : txt (cuB P ++ P.pay) 0 = P.proto := by
        rw [txt_left _ _ (by omega)]
        unfold cuB
        rw [app_assoc, app_assoc, txt_left _ _ (by rw [putT_size]; decide), put_one (by omega)]
        omega
      have t1 : txt (cuB P ++ P.pay) 1 = 0 := by
        rw [txt_left _ _ (by omega)]
        unfold cuB
        rw [app_assoc, app_assoc]
        have := txt_right (putT P.proto.toNat 1) (putT 0 1 ++ (putT (P.off.toNat + bN P.more 1) 2 ++ putT P.id.toNat 4)) (putT_size _ _) (j := 0)
        rw [this, txt_left _ _ (by rw [putT_size]; decide), put_one (by omega)]
        rfl
      have g2 : getN (txt (cuB P ++ P.pay)) 2 2 = P.off.toNat + bN P.more 1 := by
        rw [getN_left _ _ (by omega)]
        unfold cuB
        rw [app_assoc]
        have := getN_right (putT P.proto.toNat 1 ++ putT 0 1) (putT (P.off.toNat + bN P.more 1) 2 ++ putT P.id.toNat 4) (n := 2) (a := 0) (z := 2) (by simp only [ByteArray.size_append, putT_size])
        rw [this, get_putP (by decide) (by omega)]
      have g4 : getN (txt (cuB P ++ P.pay)) 4 4 = P.id.toNat := by
        rw [getN_left _ _ (by omega)]
        unfold cuB
        have := getN_right (putT P.proto.toNat 1 ++ putT 0 1 ++ putT (P.off.toNat + bN P.more 1) 2) (putT P.id.toNat 4) (n := 4) (a := 0) (z := 4) (by simp only [ByteArray.size_append, putT_size])
        rw [this, get_putA (by decide) (by omega)]
      have ep : (cuB P ++ P.pay).extract 8 (cuB P ++ P.pay).size = P.pay := by
        rw [ByteArray.size_append, zc]
        have := cutP_right (cuB P) P.pay (n := 8) (a := 0) (e := P.pay.size) zc (Nat.le_refl _)
        rw [this, cutP_all]
      have zs : ¬ (cuB P ++ P.pay).size < 8 := by rw [ByteArray.size_append]; omega
      have hmo : decide ((P.off.toNat + bN P.more 1) % 2 = 1) = P.more := by
        cases hm : P.more
        · unfold bN; simp; omega
        · unfold bN; simp; omega
      have hof : (((P.off.toNat + bN P.more 1) / 8 * 8 : Nat) : Int) = P.off := by omega
      have hbt : ¬ ((0 : Int) ≠ 0 ∨ (P.off.toNat + bN P.more 1) % 8 / 2 ≠ 0 ∨ isHd P.proto = true) := by
        rw [hp]
        simp
        omega
      rw [e44, t0, t1, g2, g4, ep]
      rw [if_neg (by decide), if_neg (by simp), if_neg zs, if_neg hbt, hmo, hof]
      congr 2
      omega
  | x :: l, acc, n + 1, h, hn => by
    have hl : l.length < n := by simpa using hn
    unfold exsOk at h
    rw [Bool.and_eq_true, exOk_iff] at h
    obtain ⟨⟨hk, hm, hz6, hz⟩, h2⟩ := h
    obtain ⟨k0, k1, _⟩ := exsOk_kind hp h2 hb
    have ih := rdEx_exB hp hb ho ho8 hid hpc hpo hpm hpi hcut l (acc ++ [x]) n (by rw [List.length_append]; exact h2) hl
    unfold rdEx
    have e1 : isHd x.kind = true := isHd_iff.2 (by omega)
    have e2 : mayB x.kind acc.length = true := mayB_iff.2 hm
    have ek : ¬ x.kind = 44 := by omega
    have eN : nextK P (x :: l) = x.kind := rfl
    rw [eN]
    have eB : exB P (x :: l) ++ P.pay = putT (nextK P l).toNat 1 ++ (putT ((2 + x.body.size) / 8 - 1) 1 ++ (x.body ++ (exB P l ++ P.pay))) := by
      show putT (nextK P l).toNat 1 ++ putT ((2 + x.body.size) / 8 - 1) 1 ++ x.body ++ exB P l ++ P.pay = _
      simp only [app_assoc]
    generalize hR : exB P l ++ P.pay = R at *
    rw [eB]
    have t0 : txt (putT (nextK P l).toNat 1 ++ (putT ((2 + x.body.size) / 8 - 1) 1 ++ (x.body ++ R))) 0 = nextK P l := by
      rw [txt_left _ _ (by rw [putT_size]; decide), put_one (by omega)]
      omega
    have t1 : txt (putT (nextK P l).toNat 1 ++ (putT ((2 + x.body.size) / 8 - 1) 1 ++ (x.body ++ R))) 1 = (((2 + x.body.size) / 8 - 1 : Nat) : Int) := by
      have := txt_right (putT (nextK P l).toNat 1) (putT ((2 + x.body.size) / 8 - 1) 1 ++ (x.body ++ R)) (putT_size _ _) (j := 0)
      rw [this, txt_left _ _ (by rw [putT_size]; decide), put_one (by omega)]
    have hsz : (putT (nextK P l).toNat 1 ++ (putT ((2 + x.body.size) / 8 - 1) 1 ++ (x.body ++ R))).size = 2 + x.body.size + R.size := by simp only [ByteArray.size_append, putT_size]; omega
    rw [t0, t1, Int.toNat_natCast, hsz]
    have eM : ((2 + x.body.size) / 8 - 1 + 1) * 8 = 2 + x.body.size := by omega
    rw [eM]
    have hA : (putT (nextK P l).toNat 1 ++ putT ((2 + x.body.size) / 8 - 1) 1).size = 2 := by simp only [ByteArray.size_append, putT_size]
    have eb : (putT (nextK P l).toNat 1 ++ (putT ((2 + x.body.size) / 8 - 1) 1 ++ (x.body ++ R))).extract 2 (2 + x.body.size) = x.body := by
      rw [← app_assoc]
      have := cutP_right (putT (nextK P l).toNat 1 ++ putT ((2 + x.body.size) / 8 - 1) 1) (x.body ++ R) (a := 0) (e := x.body.size) hA (by rw [ByteArray.size_append]; omega)
      rw [this, cutP_left _ _ (Nat.le_refl _), cutP_all]
    have er : (putT (nextK P l).toNat 1 ++ (putT ((2 + x.body.size) / 8 - 1) 1 ++ (x.body ++ R))).extract (2 + x.body.size) (2 + x.body.size + R.size) = R := by
      rw [← app_assoc, ← app_assoc]
      have hA2 : (putT (nextK P l).toNat 1 ++ putT ((2 + x.body.size) / 8 - 1) 1 ++ x.body).size = 2 + x.body.size := by rw [ByteArray.size_append, hA]
      have := cutP_right (putT (nextK P l).toNat 1 ++ putT ((2 + x.body.size) / 8 - 1) 1 ++ x.body) R (a := 0) (e := R.size) hA2 (Nat.le_refl _)
      rw [Nat.add_zero] at this
      rw [this, cutP_all]
    rw [eb, er, e1, e2, if_neg (by decide), if_neg (by simp), if_neg (by omega), if_neg ek, if_neg (by omega), ih, List.append_assoc, List.singleton_append]
theorem hd6_size {P : Pk} (h : rgtP P = true) (h6 : P.sv = true) : (hd6 P).size = 40 := by
  obtain ⟨h1, h2, h3, _⟩ := rgtP_iff.1 h
  have hd : P.dv = true := by rw [← h3]; exact h6
  have z1 := bytT_len h1
  have z2 := bytT_len h2
  rw [if_pos h6] at z1
  rw [if_pos hd] at z2
  unfold hd6
  simp only [ByteArray.size_append, putT_size, z1, z2]
theorem six_size {P : Pk} (h : rgtP P = true) (h6 : P.sv = true) : (sixB P).size = headP P + P.pay.size := by
  have h40 := hd6_size h h6
  obtain ⟨h1, h2, h3, _, _, _, _, _, hr⟩ := rgtP_iff.1 h
  rw [if_pos h6] at hr
  obtain ⟨_, _, _, hx, _⟩ := rgt6_iff.1 hr
  unfold sixB headP
  rw [if_pos h6]
  simp only [ByteArray.size_append, h40, exB_size hx]
  omega
theorem a4_size (P : Pk) : (a4 P).size = 10 := by unfold a4; simp only [ByteArray.size_append, putT_size]
theorem b4_size {P : Pk} (h : rgtP P = true) (h4 : P.sv = false) : (b4 P).size = 8 + P.opts.size := by
  obtain ⟨h1, h2, h3, _⟩ := rgtP_iff.1 h
  have hd : P.dv = false := by rw [← h3]; exact h4
  have z1 := bytT_len h1
  have z2 := bytT_len h2
  rw [if_neg (by rw [h4]; decide)] at z1
  rw [if_neg (by rw [hd]; decide)] at z2
  unfold b4
  simp only [ByteArray.size_append, z1, z2]
theorem four_size {P : Pk} (h : rgtP P = true) (h4 : P.sv = false) : (fourB P).size = headP P + P.pay.size := by
  unfold fourB headP
  rw [if_neg (by rw [h4]; decide)]
  simp only [ByteArray.size_append, a4_size, b4_size h h4, putT_size]
  omega
theorem bld_size {P : Pk} (h : rgtP P = true) (hf : fitP P = true) : (bldT P).size = sizeP P := by
  unfold bldT sizeP
  rw [h, hf, if_pos (by decide), if_pos rfl]
  cases h6 : P.sv
  · rw [if_neg (by decide)]; exact four_size h h6
  · rw [if_pos rfl]; exact six_size h h6
/-- What the first forty bytes say. -/
theorem hd6_says {P : Pk} (h : rgtP P = true) (hf : fitP P = true) (h6 : P.sv = true) (R : ByteArray) :
    (txt (hd6 P ++ R) 0).toNat / 16 = 6 ∧ getN (txt (hd6 P ++ R)) 0 4 = 1610612736 + P.cls.toNat * 1048576 + P.flow.toNat ∧ getN (txt (hd6 P ++ R)) 4 2 = headP P + P.pay.size - 40 ∧ txt (hd6 P ++ R) 6 = nextK P P.exts ∧ txt (hd6 P ++ R) 7 = P.hop ∧ (hd6 P ++ R).extract 8 24 = bytT P.sv P.sb ∧ (hd6 P ++ R).extract 24 40 = bytT P.dv P.db := by
  have h40 := hd6_size h h6
  obtain ⟨h1, h2, h3, hpr, hho, hcl, hof, ho8, hr⟩ := rgtP_iff.1 h
  rw [if_pos h6] at hr
  obtain ⟨hfl, _, _, hx, hp, _⟩ := rgt6_iff.1 hr
  obtain ⟨k0, k1, _⟩ := exsOk_kind hp hx hpr
  have hd : P.dv = true := by rw [← h3]; exact h6
  have z1 := bytT_len h1
  have z2 := bytT_len h2
  rw [if_pos h6] at z1
  rw [if_pos hd] at z2
  have hfi : headP P + P.pay.size ≤ 65575 := by
    unfold fitP at hf
    rw [if_pos h6] at hf
    simpa using hf
  have hN : 1610612736 + P.cls.toNat * 1048576 + P.flow.toNat < 256 ^ 4 := by
    have : (256 : Nat) ^ 4 = 4294967296 := rfl
    omega
  have e0 : getN (txt (hd6 P ++ R)) 0 4 = 1610612736 + P.cls.toNat * 1048576 + P.flow.toNat := by
    rw [getN_left _ _ (by omega)]
    unfold hd6
    rw [app_assoc, app_assoc, app_assoc, app_assoc, get_putP (by decide) hN]
  have e4 : getN (txt (hd6 P ++ R)) 4 2 = headP P + P.pay.size - 40 := by
    rw [getN_left _ _ (by omega)]
    unfold hd6
    rw [app_assoc, app_assoc, app_assoc, app_assoc]
    have := getN_right (putT (1610612736 + P.cls.toNat * 1048576 + P.flow.toNat) 4) (putT (headP P + P.pay.size - 40) 2 ++ (putT (nextK P P.exts).toNat 1 ++ (putT P.hop.toNat 1 ++ (bytT P.sv P.sb ++ bytT P.dv P.db)))) (n := 4) (a := 0) (z := 2) (putT_size _ _)
    rw [this, get_putP (by decide) (by omega)]
  have e6 : txt (hd6 P ++ R) 6 = nextK P P.exts := by
    rw [txt_left _ _ (by omega)]
    unfold hd6
    rw [app_assoc, app_assoc, app_assoc]
    have := txt_right (putT (1610612736 + P.cls.toNat * 1048576 + P.flow.toNat) 4 ++ putT (headP P + P.pay.size - 40) 2) (putT (nextK P P.exts).toNat 1 ++ (putT P.hop.toNat 1 ++ (bytT P.sv P.sb ++ bytT P.dv P.db))) (n := 6) (j := 0) (by simp only [ByteArray.size_append, putT_size])
    rw [this, txt_left _ _ (by rw [putT_size]; decide), put_one (by omega)]
    omega
  have e7 : txt (hd6 P ++ R) 7 = P.hop := by
    rw [txt_left _ _ (by omega)]
    unfold hd6
    rw [app_assoc, app_assoc]
    have := txt_right (putT (1610612736 + P.cls.toNat * 1048576 + P.flow.toNat) 4 ++ putT (headP P + P.pay.size - 40) 2 ++ putT (nextK P P.exts).toNat 1) (putT P.hop.toNat 1 ++ (bytT P.sv P.sb ++ bytT P.dv P.db)) (n := 7) (j := 0) (by simp only [ByteArray.size_append, putT_size])
    rw [this, txt_left _ _ (by rw [putT_size]; decide), put_one (by omega)]
    omega
  refine ⟨?_, e0, e4, e6, e7, ?_, ?_⟩
  · have g := getN_high (fun j => txt_b (hd6 P ++ R) j) 0 4 1 (by decide)
    rw [e0, getN_one] at g
    have e256 : (256 : Nat) ^ (4 - 1) = 16777216 := rfl
    rw [e256] at g
    rw [← g]
    omega
  · rw [cutP_left _ _ (by omega)]
    unfold hd6
    rw [app_assoc]
    have := cutP_right (putT (1610612736 + P.cls.toNat * 1048576 + P.flow.toNat) 4 ++ putT (headP P + P.pay.size - 40) 2 ++ putT (nextK P P.exts).toNat 1 ++ putT P.hop.toNat 1) (bytT P.sv P.sb ++ bytT P.dv P.db) (n := 8) (a := 0) (e := 16) (by simp only [ByteArray.size_append, putT_size]) (by rw [ByteArray.size_append]; omega)
    rw [this, cutP_left _ _ (by omega)]
    have := cutP_all (bytT P.sv P.sb)
    rwa [z1] at this
  · rw [cutP_left _ _ (by omega)]
    unfold hd6
    have := cutP_right (putT (1610612736 + P.cls.toNat * 1048576 + P.flow.toNat) 4 ++ putT (headP P + P.pay.size - 40) 2 ++ putT (nextK P P.exts).toNat 1 ++ putT P.hop.toNat 1 ++ bytT P.sv P.sb) (bytT P.dv P.db) (n := 24) (a := 0) (e := 16) (by simp only [ByteArray.size_append, putT_size, z1]) (by omega)
    rw [this]
    have := cutP_all (bytT P.dv P.db)
    rwa [z2] at this
theorem back6 {P : Pk} (hO : PkOk P) (h : rgtP P = true) (hf : fitP P = true) (hs6 : P.sv = true) (rest : ByteArray) : ∃ Q, rdP (sixB P ++ rest) = .ok Q ∧ samP P Q = true := by
  have h40 := hd6_size h hs6
  have hz := six_size h hs6
  obtain ⟨s0, sN, s4, s6, s7, ss, sd⟩ := hd6_says h hf hs6 (exB P P.exts ++ P.pay ++ rest)
  have hB : sixB P ++ rest = hd6 P ++ (exB P P.exts ++ P.pay ++ rest) := by unfold sixB; rw [app_assoc, app_assoc, app_assoc]
  obtain ⟨h1, h2, h3, hpr, hho, hcl, hof, ho8, hr⟩ := rgtP_iff.1 h
  rw [if_pos hs6] at hr
  obtain ⟨hfl, hop, hst, hx, hp, hid, hcu⟩ := rgt6_iff.1 hr
  have hd : P.dv = true := by rw [← h3]; exact hs6
  have hx2 := exB_size (P := P) hx
  have hhead : headP P = 40 + exLen P.exts + (if P.cut = true then 8 else 0) := by unfold headP; rw [if_pos hs6]
  have hE : (exB P P.exts ++ P.pay).size = headP P + P.pay.size - 40 := by rw [ByteArray.size_append, hx2]; omega
  rw [← hB] at s0 sN s4 s6 s7 ss sd
  have hsz : (sixB P ++ rest).size = headP P + P.pay.size + rest.size := by rw [ByteArray.size_append, hz]
  have hR : (sixB P ++ rest).extract 40 (40 + (headP P + P.pay.size - 40)) = exB P P.exts ++ P.pay := by
    rw [hB, ← hE]
    have := cutP_right (hd6 P) (exB P P.exts ++ P.pay ++ rest) (n := 40) (a := 0) (e := (exB P P.exts ++ P.pay).size) h40 (by rw [ByteArray.size_append (a := exB P P.exts ++ P.pay) (b := rest)]; omega)
    rw [this, cutP_left _ _ (Nat.le_refl _), cutP_all]
  unfold rdP
  rw [if_neg (by omega), s0, if_neg (by decide), if_neg (by have := h40; have := hz; omega), if_neg (by decide), s4, if_neg (by omega), s6, hR]
  rw [rdEx_exB hp hpr hof ho8 hid rfl rfl rfl rfl hcu P.exts [] 5 hx (by
    rcases exsOk_len hx with e | e
    · rw [e]; decide
    · omega)]
  refine ⟨_, rfl, ?_⟩
  rw [samP_iff]
  unfold h6
  simp only [ss, sd, sN, s7, List.nil_append]
  refine ⟨hs6, fun i hi => (frB_byt hO.sb h1 hi).symm, hd, fun i hi => (frB_byt hO.db h2 hi).symm, trivial, trivial, by omega, trivial, trivial, trivial, hst, ?_, by omega, trivial, trivial, trivial⟩
  exact txt_ext (by rw [hop]; rfl) (fun j hj => by omega)
theorem sum_nat (T : ByteArray) : ((sumT T).toNat : Int) = sumT T ∧ (sumT T).toNat < 65536 := by
  have := sumT_b T
  omega
/-- What a header of version 4 says. -/
theorem four_says {P : Pk} (h : rgtP P = true) (hf : fitP P = true) (h4 : P.sv = false) (R : ByteArray) :
    txt (fourB P ++ R) 0 = ((64 + headP P / 4 : Nat) : Int) ∧ txt (fourB P ++ R) 1 = P.cls ∧ getN (txt (fourB P ++ R)) 2 2 = headP P + P.pay.size ∧ getN (txt (fourB P ++ R)) 4 2 = P.id.toNat ∧ getN (txt (fourB P ++ R)) 6 2 = P.off.toNat / 8 + bN P.more 8192 + bN P.still 16384 ∧ txt (fourB P ++ R) 8 = P.hop ∧ txt (fourB P ++ R) 9 = P.proto ∧ (fourB P ++ R).extract 0 10 = a4 P ∧ getN (txt (fourB P ++ R)) 10 2 = (sumT (a4 P ++ b4 P)).toNat ∧ (fourB P ++ R).extract 12 (headP P) = b4 P := by
  obtain ⟨h1, h2, h3, hpr, hho, hcl, hof, ho8, hr⟩ := rgtP_iff.1 h
  rw [if_neg (by rw [h4]; decide)] at hr
  obtain ⟨hid, _, hop, _⟩ := rgt4_iff.1 hr
  have z4 := b4_size h h4
  have hh : headP P = 20 + P.opts.size := by unfold headP; rw [if_neg (by rw [h4]; decide)]
  have hfi : headP P + P.pay.size ≤ 65535 := by
    unfold fitP at hf
    rw [if_neg (by rw [h4]; decide)] at hf
    simpa using hf
  have hm := bN_lt P.more 8192
  have hs := bN_lt P.still 16384
  have hB : fourB P ++ R = a4 P ++ (putT (sumT (a4 P ++ b4 P)).toNat 2 ++ (b4 P ++ (P.pay ++ R))) := by unfold fourB; rw [app_assoc, app_assoc, app_assoc]
  have hA : a4 P = putT (64 + headP P / 4) 1 ++ (putT P.cls.toNat 1 ++ (putT (headP P + P.pay.size) 2 ++ (putT P.id.toNat 2 ++ (putT (P.off.toNat / 8 + bN P.more 8192 + bN P.still 16384) 2 ++ (putT P.hop.toNat 1 ++ putT P.proto.toNat 1))))) := by unfold a4; simp only [app_assoc]
  have hsu := sum_nat (a4 P ++ b4 P)
  have za := a4_size P
  rw [hB]
  refine ⟨?_, ?_, ?_, ?_, ?_, ?_, ?_, ?_, ?_, ?_⟩
  · rw [txt_left _ _ (by omega), hA, txt_left _ _ (by rw [putT_size]; decide), put_one (by omega)]
  · rw [txt_left _ _ (by omega), hA, txt_right _ _ (n := 1) (j := 0) (putT_size _ _), txt_left _ _ (by rw [putT_size]; decide), put_one (by omega)]
    omega
  · rw [getN_left _ _ (by omega), hA, getN_right _ _ (n := 1) (a := 1) (putT_size _ _), getN_right _ _ (n := 1) (a := 0) (putT_size _ _), get_putP (by decide) (by omega)]
  · rw [getN_left _ _ (by omega), hA, getN_right _ _ (n := 1) (a := 3) (putT_size _ _), getN_right _ _ (n := 1) (a := 2) (putT_size _ _), getN_right _ _ (n := 2) (a := 0) (putT_size _ _), get_putP (by decide) (by omega)]
  · rw [getN_left _ _ (by omega), hA, getN_right _ _ (n := 1) (a := 5) (putT_size _ _), getN_right _ _ (n := 1) (a := 4) (putT_size _ _), getN_right _ _ (n := 2) (a := 2) (putT_size _ _), getN_right _ _ (n := 2) (a := 0) (putT_size _ _), get_putP (by decide) (by omega)]
  · rw [txt_left _ _ (by omega), hA, txt_right _ _ (n := 1) (j := 7) (putT_size _ _), txt_right _ _ (n := 1) (j := 6) (putT_size _ _), txt_right _ _ (n := 2) (j := 4) (putT_size _ _), txt_right _ _ (n := 2) (j := 2) (putT_size _ _), txt_right _ _ (n := 2) (j := 0) (putT_size _ _), txt_left _ _ (by rw [putT_size]; decide), put_one (by omega)]
    omega
  · rw [txt_left _ _ (by omega), hA, txt_right _ _ (n := 1) (j := 8) (putT_size _ _), txt_right _ _ (n := 1) (j := 7) (putT_size _ _), txt_right _ _ (n := 2) (j := 5) (putT_size _ _), txt_right _ _ (n := 2) (j := 3) (putT_size _ _), txt_right _ _ (n := 2) (j := 1) (putT_size _ _), txt_right _ _ (n := 1) (j := 0) (putT_size _ _), put_one (by omega)]
    omega
  · rw [cutP_left _ _ (by omega), ← za, cutP_all]
  · rw [getN_right _ _ (n := 10) (a := 0) za, get_putP (by decide) (by omega)]
  · rw [hh, show 12 = 10 + 2 by rfl, show 20 + P.opts.size = 10 + (10 + P.opts.size) by omega, cutP_right _ _ za (by simp only [ByteArray.size_append, putT_size]; omega), show 10 + P.opts.size = 2 + (8 + P.opts.size) by omega]
    have := cutP_right (putT (sumT (a4 P ++ b4 P)).toNat 2) (b4 P ++ (P.pay ++ R)) (n := 2) (a := 0) (e := 8 + P.opts.size) (putT_size _ _) (by rw [ByteArray.size_append]; omega)
    rw [this, cutP_left _ _ (by omega), ← z4, cutP_all]
theorem back4 {P : Pk} (hO : PkOk P) (h : rgtP P = true) (hf : fitP P = true) (h4 : P.sv = false) (rest : ByteArray) : ∃ Q, rdP (fourB P ++ rest) = .ok Q ∧ samP P Q = true := by
  obtain ⟨s0, s1, s2, s4, s6, s8, s9, sa, ss, sb⟩ := four_says h hf h4 rest
  obtain ⟨h1, h2, h3, hpr, hho, hcl, hof, ho8, hr⟩ := rgtP_iff.1 h
  rw [if_neg (by rw [h4]; decide)] at hr
  obtain ⟨hid, ho4, hop, hfl, hex, hcu⟩ := rgt4_iff.1 hr
  have hd : P.dv = false := by rw [← h3]; exact h4
  have hz := four_size h h4
  have z4 := b4_size h h4
  have hh : headP P = 20 + P.opts.size := by unfold headP; rw [if_neg (by rw [h4]; decide)]
  have hsz : (fourB P ++ rest).size = headP P + P.pay.size + rest.size := by rw [ByteArray.size_append, hz]
  have z1 := bytT_len h1
  have z2 := bytT_len h2
  rw [if_neg (by rw [h4]; decide)] at z1
  rw [if_neg (by rw [hd]; decide)] at z2
  have b1 : (fourB P ++ rest).extract 12 16 = bytT P.sv P.sb := by
    have := cutP_cut (fourB P ++ rest) (a := 12) (e := headP P) (b := 0) (f := 4) (by omega) (by omega)
    rw [sb] at this
    rw [← this]
    unfold b4
    rw [app_assoc, cutP_left _ _ (by omega), ← z1, cutP_all]
  have b2 : (fourB P ++ rest).extract 16 20 = bytT P.dv P.db := by
    have := cutP_cut (fourB P ++ rest) (a := 12) (e := headP P) (b := 4) (f := 8) (by omega) (by omega)
    rw [sb] at this
    rw [← this]
    unfold b4
    rw [app_assoc, cutP_right _ _ (n := 4) (a := 0) (e := 4) z1 (by rw [ByteArray.size_append]; omega), cutP_left _ _ (by omega), ← z2, cutP_all]
  have b3 : (fourB P ++ rest).extract 20 (headP P) = P.opts := by
    have := cutP_cut (fourB P ++ rest) (a := 12) (e := headP P) (b := 8) (f := 8 + P.opts.size) (by omega) (by omega)
    rw [sb] at this
    rw [show headP P = 12 + (8 + P.opts.size) by omega, ← this]
    unfold b4
    rw [cutP_right _ _ (n := 8) (a := 0) (e := P.opts.size) (by rw [ByteArray.size_append, z1, z2]) (Nat.le_refl _), cutP_all]
  have b5 : (fourB P ++ rest).extract (headP P) (headP P + P.pay.size) = P.pay := by
    have hq : (a4 P ++ putT (sumT (a4 P ++ b4 P)).toNat 2 ++ b4 P).size = headP P := by simp only [ByteArray.size_append, a4_size, putT_size, z4]; omega
    unfold fourB
    rw [app_assoc (a4 P ++ putT (sumT (a4 P ++ b4 P)).toNat 2 ++ b4 P)]
    have := cutP_right (a4 P ++ putT (sumT (a4 P ++ b4 P)).toNat 2 ++ b4 P) (P.pay ++ rest) (n := headP P) (a := 0) (e := P.pay.size) hq (by rw [ByteArray.size_append]; omega)
    rw [Nat.add_zero] at this
    rw [this, cutP_left _ _ (Nat.le_refl _), cutP_all]
  have e0 : (((64 + headP P / 4 : Nat) : Int)).toNat = 64 + headP P / 4 := Int.toNat_natCast _
  have hq4 : (64 + headP P / 4) / 16 = 4 := by omega
  have hq5 : (64 + headP P / 4) % 16 * 4 = headP P := by omega
  have hsu := sum_nat (a4 P ++ b4 P)
  unfold rdP rd4
  simp only [s0, e0, hq4, hq5, s2, sa, sb, ss, s6]
  rw [if_neg (by omega), if_neg (by decide), if_neg (by omega), if_pos trivial, if_neg (by omega), if_neg (by rw [hsu.1]; simp), if_neg (by have := bN_lt P.more 8192; have := bN_lt P.still 16384; omega)]
  refine ⟨_, rfl, ?_⟩
  rw [samP_iff]
  simp only [s1, s4, s8, s9, b1, b2, b3, b5]
  refine ⟨h4, fun i hi => (frB_byt hO.sb h1 hi).symm, hd, fun i hi => (frB_byt hO.db h2 hi).symm, trivial, trivial, trivial, by omega, ?_, ?_, ?_, trivial, hfl, hex, hcu, trivial⟩
  · unfold bN
    split <;> split <;> omega
  · cases P.more <;> cases P.still <;> simp [bN] <;> omega
  · cases P.more <;> cases P.still <;> simp [bN] <;> omega
/-- What was built is read again, whatever stands behind. -/
theorem rd_bld {P : Pk} (hO : PkOk P) (h : rgtP P = true) (hf : fitP P = true) (rest : ByteArray) : ∃ Q, rdP (bldT P ++ rest) = .ok Q ∧ samP P Q = true := by
  unfold bldT
  rw [h, hf, if_pos (by decide)]
  cases h6 : P.sv
  · rw [if_neg (by decide)]; exact back4 hO h hf h6 rest
  · rw [if_pos rfl]; exact back6 hO h hf h6 rest
end Go.Proofs.Ytdlepeogmjmleaa
