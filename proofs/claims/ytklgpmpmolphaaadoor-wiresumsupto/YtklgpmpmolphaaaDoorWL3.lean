/-
  Own text. WireSums: the checksum of any parts; the parts stay.
-/
import Derived.Test.YtklgpmpmolphaaaDoorJ5
import Derived.Test.YtklgpmpmolphaaaDoorJ2
namespace Go.Proofs.YtklgpmpmolphaaaDoor
open Go.RowKit Go.Proofs
set_option maxRecDepth 100000
def spareS : ByteArray := ⟨#[115, 112, 97, 114, 101]⟩
theorem cellq {w : World} {g n : Nat} {cur : Array Value} {q : ByteArray} (h : w.heap[g]? = some (.cells cur 9 (0, 0))) (hq : cur[n]? = some (.string q)) : w.cell? ⟨g, n, none⟩ = some (.string q) := by
  rw [cell_of_row w g _ _ _ _ h, hq]
set_option maxHeartbeats 4000000 in
theorem lent_run (v : Value) (n : Nat) (ts : Nat → ByteArray) (w : World) (hS : Strs w v n ts) (hn : n < 3000000) : Calls Tryd.prog 10 #[v] w fun e w' => ∃ (g cap : Nat) (cur : Array Value), e = .returned (.slice (some ⟨g, 0, none⟩) (n + 1) cap) ∧ n + 1 ≤ cap ∧ w.heap.size ≤ g ∧ w'.heap[g]? = some (.cells cur 9 (0, 0)) ∧ (∀ j, j < n → cur[j]? = some (.string (ts j))) ∧ cur[n]? = some (.string spareS) ∧ Below w.heap.size w w' := by
  have hO : w.ownsRow w.heap.size 9 1 (.slice none 0 0) 0 [] := ⟨rfl, .inl ⟨rfl, rfl⟩⟩
  go_enter Tryd.func10, Tryd.ntmps10
  go_wp2_with (refine ap_strs (by rfl) (by rfl) hO hS (by omega) (Nat.le_refl _) ?_; intro v3 w3 hO3 hb3; refine Hid.out ?_)
  refine Hid.mk ?_
  rw [Nat.zero_add, List.nil_append] at hO3
  have hsz3 := hb3.size
  go_wp2_with (refine wl_bsS1 rfl rfl (by rfl) ?_; intro gS w4 hgS hS4 hb4; refine Hid.out ?_)
  refine Hid.mk ?_
  have hO4 := own_kept hO3 hb4
  have hB := hb3.trans (hb4.mono hsz3)
  go_wp2_with (refine ap_strs (by rfl) (by rfl) hO4 hS4 (by omega) hB.size ?_; intro v5 w5 hO5 hb5; refine Hid.out ?_)
  refine Hid.mk ?_
  obtain ⟨g, cap, cur, rfl, hgB, hcap, hg, hcs, hcq⟩ := own_strs (q := spareS) hO5
  go_wp2_with fail
  go_ret
  exact ⟨g, cap, cur, rfl, by omega, hgB, hg, hcs, hcq, hB.trans hb5⟩
set_option maxHeartbeats 16000000 in
theorem sums_walk (v : Value) (n : Nat) (ts : Nat → ByteArray) (w : World) (hE : Env w) (hS : Strs w v n ts) (hb : n + (joinB ts n).size ≤ 1048576) : Calls Tryd.prog 3 #[v] w fun e w' => e = .returned (.bool true) ∧ Below w.heap.size w w' := by
  have HV : Hid (∀ u, Below w.heap.size w u → Strs u v n ts) := Hid.mk (fun u hu => hS.below hu)
  have HRS : Hid (∀ u, Below w.heap.size w u → Calls Tryd.prog 12 #[v] u fun e w' => e = .returned (.int .i64 (sumT (joinB ts n))) ∧ Below u.heap.size u w') := Hid.mk (fun u hu => rSum_run v n ts u (HV.out u hu) (by omega) (by omega))
  have HLE : Hid (∀ u, Below w.heap.size w u → Calls Tryd.prog 10 #[v] u fun e w' => ∃ (g cap : Nat) (cur : Array Value), e = .returned (.slice (some ⟨g, 0, none⟩) (n + 1) cap) ∧ n + 1 ≤ cap ∧ u.heap.size ≤ g ∧ w'.heap[g]? = some (.cells cur 9 (0, 0)) ∧ (∀ j, j < n → cur[j]? = some (.string (ts j))) ∧ cur[n]? = some (.string spareS) ∧ Below u.heap.size u w') := Hid.mk (fun u hu => lent_run v n ts u (HV.out u hu) (by omega))
  have HSU : Hid (∀ (u : World) (g cap : Nat) (cur : Array Value), u.heap[g]? = some (.cells cur 9 (0, 0)) → (∀ j, j < n → cur[j]? = some (.string (ts j))) → Calls Tryd.prog 11 #[.slice (some ⟨g, 0, none⟩) n cap] u fun e w' => e = .returned (.int .i64 (sumT (joinB ts n))) ∧ w' = u) := Hid.mk (fun u g cap cur hg hc => Sum_run _ n ts u (strs_row' (cap := cap) hg hc) (by omega) (by omega))
  have hn : n ≤ 1048576 := by omega
  obtain ⟨Z, hZ⟩ : ∃ Z, sumT (joinB ts n) = Z := ⟨_, rfl⟩
  rw [hZ] at HRS HSU
  clear hZ hb
  obtain ⟨ad, c, rfl, hp⟩ := hS
  have HP := Hid.mk hp
  clear hp
  go_enter Tryd.func3, Tryd.ntmps3
  go_wp2_with (go_at_call 9; refine (awake_run _ hE).mono ?_; rintro e u2 ⟨rfl, hB2⟩; refine Hid.out ?_)
  refine Hid.mk ?_
  go_wp2_with (go_at_call 10; refine (HLE.out _ hB2).mono ?_; rintro e u3 ⟨g, cap, cur, rfl, hcap, hgB, hg, hcs, hcq, hB3⟩; refine Hid.out ?_)
  refine Hid.mk ?_
  have hBa := hB2.trans (hB3.mono hB2.size)
  have HS3 := Hid.mk (HSU.out u3 g cap cur hg hcs)
  have HCQ := Hid.mk (And.intro hcs hcq)
  have hsl := slStr (some ⟨g, 0, none⟩) n (n + 1) cap u3 (by omega)
  clear hcs hcq hB2 hB3 HLE HSU
  go_wp2_with (first | (refine wl_value rfl (exec_slH rfl (by rfl) (by rfl) hsl) ?_) | (go_at_call 11; refine HS3.out.mono ?_; rintro e u4 ⟨rfl, rfl⟩))
  clear HS3 hsl
  have HG0 : Hid (Below w.heap.size w u4 ∧ u4.heap[g]? = some (.cells cur 9 (0, 0))) := Hid.mk ⟨hBa, hg⟩
  clear hBa hg
  go_loopg [6] n (fun gm s6 z => ∃ i : Nat, Hid (gm + i = n) ∧ i ≤ n ∧ s6 = .int .i64 (i : Int) ∧ Hid (Below w.heap.size w z ∧ z.heap[g]? = some (.cells cur 9 (0, 0))))
  case atStart => exact ⟨0, Hid.mk rfl, by omega, rfl, HG0⟩
  case round =>
    obtain ⟨i, HI, hi, rfl, HW⟩ := hrel
    clear HG0
    obtain ⟨wI, hwI⟩ : ∃ x, x = wr := ⟨_, rfl⟩
    rw [← hwI] at HW ⊢
    clear hwI
    by_cases hin : i < n
    · have hini : (i : Int) < (n : Int) := by omega
      have hin1 : i < n + 1 := by omega
      obtain ⟨p, rfl, hpc⟩ := HP.out (by omega)
      have HCP : Hid (∀ ww, Below wI.heap.size wI ww → ww.cell? (p.add i) = some (.string (ts i))) := Hid.mk (fun ww hh => by
        have h1 := (HW.out.1.cell (World.block_lt_of_cell? _ _ (hpc i hin))).trans (hpc i hin)
        exact (hh.cell (World.block_lt_of_cell? _ _ h1)).trans h1)
      have HCG : Hid (∀ ww, Below wI.heap.size wI ww → ww.cell? ((⟨g, 0, none⟩ : Addr).add i) = some (.string (ts i))) := Hid.mk (fun ww hh => by
        have h1 : wI.cell? ⟨g, i, none⟩ = some (.string (ts i)) := cellq HW.out.2 (HCQ.out.1 i hin)
        rw [Addr.add_lit, Nat.zero_add]
        exact (hh.cell (World.block_lt_of_cell? _ _ h1)).trans h1)
      clear hpc
      go_upto_region 7 with fail
      refine wp_region3 (Below wI.heap.size wI) wI.heap.size
          ([] : List (Nat × Cont))
          [kv (.slice (some ⟨g, 0, none⟩) (n + 1) cap), kv (.int .i64 (i : Int)), kv (.pointer (some ((⟨g, 0, none⟩ : Addr).add i))), kv (.string (ts i)), kv (.slice (some p) n c), kv (.int .i64 (i : Int)), kv (.pointer (some (p.add i))), kv (.string (ts i)), kv (.bool false)]
          [.none, .none, .none, .none, .none, .none, .none, .none, .none]
          [some 21, some 22, some 23, some 24, some 25, some 26, some 27, some 28, some 29]
          [(4, .slice (some ⟨g, 0, none⟩) (n + 1) cap), (0, .slice (some p) n c), (6, .int .i64 (i : Int))]
          [[], [], [.slot 0, .slot 1], [.slot 2], [], [], [.slot 4, .slot 5], [.slot 6], [.slot 3, .slot 7]]
          [.slot 8] [21, 22, 23, 24, 25, 26, 27, 28, 29]
          rfl (by kernel_rfl) ⟨rfl, rfl, rfl, trivial⟩ ((Below.refl _ wI).drew) (Nat.le_refl _) trivial trivial (below_GcW (Nat.le_refl _))
          ⟨
            (fun Q aq ww own hS hBg fr kn => .inl ⟨trivial, fun K hK => wp_value (exec_move rfl fr.1) (hK _ _ ⟨Touch.refl _ _, rfl⟩)⟩),
            (fun Q aq ww own hS hBg fr kn => .inl ⟨trivial, fun K hK => wp_value (exec_move rfl fr.2.2.1) (hK _ _ ⟨Touch.refl _ _, rfl⟩)⟩),
            (fun Q aq ww own hS hBg fr kn => .inl ⟨trivial, fun K hK => wp_value (exec_ixSt (i := i) rfl kn.1 kn.2.1 hin1) (hK _ _ ⟨Touch.refl _ _, rfl⟩)⟩),
            (fun Q aq ww own hS hBg fr kn => .inl ⟨trivial, fun K hK => wp_value (exec_ld rfl kn.1 (load_str (HCG.out ww hS))) (hK _ _ ⟨Touch.refl _ _, rfl⟩)⟩),
            (fun Q aq ww own hS hBg fr kn => .inl ⟨trivial, fun K hK => wp_value (exec_move rfl fr.2.1) (hK _ _ ⟨Touch.refl _ _, rfl⟩)⟩),
            (fun Q aq ww own hS hBg fr kn => .inl ⟨trivial, fun K hK => wp_value (exec_move rfl fr.2.2.1) (hK _ _ ⟨Touch.refl _ _, rfl⟩)⟩),
            (fun Q aq ww own hS hBg fr kn => .inl ⟨trivial, fun K hK => wp_value (exec_ixSt (i := i) rfl kn.1 kn.2.1 hin) (hK _ _ ⟨Touch.refl _ _, rfl⟩)⟩),
            (fun Q aq ww own hS hBg fr kn => .inl ⟨trivial, fun K hK => wp_value (exec_ld rfl kn.1 (load_str (HCP.out ww hS))) (hK _ _ ⟨Touch.refl _ _, rfl⟩)⟩),
            (fun Q aq ww own hS hBg fr kn => .inl ⟨trivial, fun K hK => wp_value (exec_neqS rfl kn.1 kn.2.1 rfl) (hK _ _ ⟨Touch.refl _ _, rfl⟩)⟩),
            trivial⟩ ?_
      intro vs own u6 hB6 hsz6 kn inj
      have e29 : vs 29 = .bool false := kn.1
      clear kn inj hsz6
      simp only [putAll, Act.put, List.setIfInBounds_toArray, List.set_cons_zero, List.set_cons_succ, e29]
      clear e29
      have HW2 : Hid (Below w.heap.size w u6 ∧ u6.heap[g]? = some (.cells cur 9 (0, 0))) := Hid.mk ⟨HW.out.1.trans (hB6.mono HW.out.1.size), bheap hB6 HW.out.2 (heap_lt HW.out.2)⟩
      clear HW HCP HCG hB6
      go_wp2_with fail
      go_roundg (n - (i + 1))
      case rel => exact ⟨i + 1, Hid.mk (by omega), by omega, by go_num, HW2⟩
      case measure => have := HI.out; omega
    · have hi2 : i = n := by omega
      subst hi2
      have hBw := HW.out.1
      go_wp2_with (go_at_call 12; refine (HRS.out _ hBw).mono ?_; rintro e u5 ⟨rfl, hB5⟩; refine Hid.out ?_)
      refine Hid.mk ?_
      have hg5 : u5.heap[g]? = some (.cells cur 9 (0, 0)) := bheap hB5 HW.out.2 (heap_lt HW.out.2)
      have hcq : u5.cell? ((⟨g, 0, none⟩ : Addr).add i) = some (.string spareS) := by
        rw [Addr.add_lit, Nat.zero_add]
        exact cellq hg5 HCQ.out.2
      go_wp2_with (first | (refine wl_value rfl (exec_ixSt (i := i) rfl (by rfl) (by rfl) (by omega)) ?_) | (refine wl_value rfl (exec_ld rfl (by rfl) (load_str hcq)) ?_) | (refine wl_value rfl (exec_eqS (s := spareS) rfl (by rfl) (by rfl)) ?_))
      go_ret
      exact ⟨rfl, hBw.trans (hB5.mono hBw.size)⟩
end Go.Proofs.YtklgpmpmolphaaaDoor
