/-
  Own text. Ranging over a map of paths, in whatever order: what is still to come; deleting on the way. (After our own text of maps keyed by families.)
-/
import Derived.Test.YtojekoakgpkkdabDoorJF4
import Derived.Shelf.Strings.OnBuilder
import Derived.Shelf.LaysM
import Derived.Test.YtojekoakgpkkdabDoorProg
import Derived.Test.YtojekoakgpkkdabDoorJF2
import Derived.Test.YtojekoakgpkkdabDoorJF3
namespace Go.Proofs.YtojekoakgpkkdabDoor
open Go.RowKit Go.Proofs
set_option maxRecDepth 100000
abbrev Zz := List ((Ad × Pth) × MapEntry)
def ZOk (Z : Zz) (clock : Nat) : Prop := (∀ z ∈ Z, KeyIs z.2.key z.1.1 ∧ z.2.val = paA z.1.2) ∧ (Z.map (·.2.born)).Nodup ∧ ∀ z ∈ Z, z.2.born < clock
theorem es_zip : ∀ {L : List (Ad × Pth)} {es : List MapEntry}, EsAt L es → ∃ Z : Zz, Z.map (·.1) = L ∧ Z.map (·.2) = es ∧ ∀ z ∈ Z, KeyIs z.2.key z.1.1 ∧ z.2.val = paA z.1.2
  | [], [], _ => ⟨[], rfl, rfl, fun z hz => by cases hz⟩
  | c :: L, x :: es, h => by
    obtain ⟨Z, h1, h2, h3⟩ := es_zip h.2.2
    refine ⟨(c, x) :: Z, by rw [List.map_cons, h1], by rw [List.map_cons, h2], fun z hz => ?_⟩
    rcases List.mem_cons.1 hz with rfl | hz
    · exact ⟨h.1, h.2.1⟩
    · exact h3 z hz
  | [], _ :: _, h => h.elim
  | _ :: _, [], h => h.elim
theorem zip_es : ∀ {Z : Zz}, (∀ z ∈ Z, KeyIs z.2.key z.1.1 ∧ z.2.val = paA z.1.2) → EsAt (Z.map (·.1)) (Z.map (·.2))
  | [], _ => trivial
  | z :: Z, h => ⟨(h z (by simp)).1, (h z (by simp)).2, zip_es (fun y hy => h y (by simp [hy]))⟩
theorem map_z {w : World} {m : Nat} {L : List (Ad × Pth)} : MapAt w m L ↔ ∃ Z clock, w.heap[m]? = some (.map (Z.map (·.2)).toArray clock) ∧ ZOk Z clock ∧ L = Z.map (·.1) := by
  constructor
  · rintro ⟨es, cl, h1, h2, h3, h4⟩
    obtain ⟨Z, e1, e2, e3⟩ := es_zip h2
    refine ⟨Z, cl, by rw [e2]; exact h1, ⟨e3, ?_, fun z hz => h4 _ (by rw [← e2]; exact List.mem_map_of_mem hz)⟩, e1.symm⟩
    rw [← e2, List.map_map] at h3
    exact h3
  · rintro ⟨Z, cl, h1, ⟨h2, h3, h4⟩, rfl⟩
    refine ⟨_, cl, h1, zip_es h2, ?_, fun x hx => ?_⟩
    · show ((Z.map (·.2)).map (·.born)).Nodup
      rw [List.map_map]
      exact h3
    · obtain ⟨z, hz, rfl⟩ := List.mem_map.1 hx
      exact h4 z hz
theorem eraseIdx_mapZ : ∀ (Z : Zz) (j : Nat), (Z.eraseIdx j).map (·.2) = (Z.map (·.2)).eraseIdx j
  | [], _ => rfl
  | _ :: _, 0 => rfl
  | z :: Z, j + 1 => by
    show z.2 :: (Z.eraseIdx j).map (·.2) = z.2 :: (Z.map (·.2)).eraseIdx j
    rw [eraseIdx_mapZ Z j]
/-- Block r goes over block m: a map with the entries L; left: those still to come. -/
def RangeAt (w : World) (m r : Nat) (L left : List (Ad × Pth)) : Prop := ∃ (Z : Zz) (clock since : Nat) (seen : Array Nat) (c0 : Nat), w.heap[m]? = some (.map (Z.map (·.2)).toArray clock) ∧ ZOk Z clock ∧ w.heap[r]? = some (.mapIter (some m) since seen c0) ∧ (∀ z ∈ Z, z.2.born < since) ∧ since ≤ c0 ∧ since ≤ clock ∧ L = Z.map (·.1) ∧ left = (Z.filter fun z => !seen.contains z.2.born).map (·.1)
theorem RangeAt.map {w : World} {m r : Nat} {L left : List (Ad × Pth)} (h : RangeAt w m r L left) : MapAt w m L := by
  obtain ⟨Z, cl, si, seen, c0, h1, h2, _, _, _, _, h6, _⟩ := h
  exact map_z.2 ⟨Z, cl, h1, h2, h6⟩
theorem RangeAt.ne {w : World} {m r : Nat} {L left : List (Ad × Pth)} (h : RangeAt w m r L left) : m ≠ r := by
  obtain ⟨Z, cl, si, seen, c0, h1, _, h3, _⟩ := h
  intro e
  subst e
  rw [h1] at h3
  cases h3
theorem RangeAt.lt {w : World} {m r : Nat} {L left : List (Ad × Pth)} (h : RangeAt w m r L left) : m < w.heap.size ∧ r < w.heap.size := by
  obtain ⟨Z, cl, si, seen, c0, h1, _, h3, _⟩ := h
  exact ⟨heap_lt h1, heap_lt h3⟩
theorem RangeAt.block {w w' : World} {m r : Nat} {L left : List (Ad × Pth)} (h : RangeAt w m r L left) (e1 : w'.heap[m]? = w.heap[m]?) (e2 : w'.heap[r]? = w.heap[r]?) : RangeAt w' m r L left := by
  obtain ⟨Z, cl, si, seen, c0, h1, h2, h3, h4⟩ := h
  exact ⟨Z, cl, si, seen, c0, e1.trans h1, h2, e2.trans h3, h4⟩
theorem RangeAt.kept {w w' : World} {m r : Nat} {L left : List (Ad × Pth)} (h : RangeAt w m r L left) (hb : Below w.heap.size w w') : RangeAt w' m r L left := h.block (hb.block _ h.lt.1) (hb.block _ h.lt.2)
theorem range_start {w : World} {m : Nat} {L : List (Ad × Pth)} (h : MapAt w m L) : ∃ w', (Instr.range 47 (.map (some m))).run Tryd.prog w = .ok (.pointer (some ⟨w.heap.size, 0, none⟩)) w' ∧ RangeAt w' m w.heap.size L L ∧ Below w.heap.size w w' ∧ w'.heap.size = w.heap.size + 1 := by
  obtain ⟨Z, cl, h1, h2, h3⟩ := map_z.1 h
  refine ⟨_, run_range_map w _ _ _ m _ cl Tryd.underlying47 h1, ⟨Z, cl, cl, #[], cl, ?_, h2, heap_alloc_new _ _, h2.2.2, Nat.le_refl _, Nat.le_refl _, h3, ?_⟩, (Below.refl _ _).alloc (Nat.le_refl _) _, by simp⟩
  · rw [Below.heap_alloc _ _ _ (heap_lt h1)]; exact h1
  · rw [h3]
    congr 1
    exact (List.filter_eq_self.2 (fun z _ => by simp)).symm
theorem perm_left {Z : Zz} {seen : Array Nat} {z : (Ad × Pth) × MapEntry} (hn : (Z.map (·.2.born)).Nodup) (hz : z ∈ Z) (hs : seen.contains z.2.born = false) : (Z.filter fun y => !seen.contains y.2.born).Perm (z :: Z.filter fun y => !(seen.push z.2.born).contains y.2.born) := by
  induction Z with
  | nil => cases hz
  | cons y Z ih =>
    rw [List.map_cons, List.nodup_cons] at hn
    have hp : ∀ b, (seen.push z.2.born).contains b = (seen.contains b || b == z.2.born) := fun b => by
      rw [Bool.eq_iff_iff]
      simp
    rcases List.mem_cons.1 hz with e | hz
    · subst e
      rw [List.filter_cons_of_pos (by rw [hs]; rfl), List.filter_cons_of_neg (by rw [hp]; simp)]
      refine List.Perm.cons _ ?_
      rw [show (Z.filter fun y => !(seen.push z.2.born).contains y.2.born) = Z.filter fun y => !seen.contains y.2.born from List.filter_congr (fun x hx => by
        have : x.2.born ≠ z.2.born := fun e => hn.1 (by rw [← e]; exact List.mem_map_of_mem (f := fun x : (Ad × Pth) × MapEntry => x.2.born) hx)
        rw [hp]
        simp [this])]
    · have hne : y.2.born ≠ z.2.born := fun e => hn.1 (by rw [e]; exact List.mem_map_of_mem (f := fun x : (Ad × Pth) × MapEntry => x.2.born) hz)
      have ih := ih hn.2 hz
      by_cases hy : seen.contains y.2.born = true
      · rw [List.filter_cons_of_neg (by rw [hy]; decide), List.filter_cons_of_neg (by rw [hp, hy]; simp)]
        exact ih
      · have hy : seen.contains y.2.born = false := by simpa using hy
        rw [List.filter_cons_of_pos (by rw [hy]; rfl), List.filter_cons_of_pos (by rw [hp, hy]; simp [hne])]
        exact (ih.cons y).trans (List.Perm.swap z y _)
/-- What an iterator's last step handed out. -/
def EntryIs (w : World) (r : Nat) (key : Value) (b : Pth) : Prop := (Instr.entry (.pointer (some ⟨r, 0, none⟩))).run Tryd.prog w = .ok (.tuple #[key, paA b]) w
theorem range_next {w : World} {m r : Nat} {L left : List (Ad × Pth)} (h : RangeAt w m r L left) (ty : TypeId) :
    (left = [] ∧ (Instr.next (.pointer (some ⟨r, 0, none⟩)) false ty).run Tryd.prog w = .ok (.tuple #[.bool false]) w) ∨
    ∃ c left' key w', left.Perm (c :: left') ∧ c ∈ L ∧ KeyIs key c.1 ∧ (Instr.next (.pointer (some ⟨r, 0, none⟩)) false ty).run Tryd.prog w = .ok (.tuple #[.bool true, key, paA c.2]) w' ∧ RangeAt w' m r L left' ∧ Only r w w' ∧ EntryIs w' r key c.2 := by
  have hmr := h.ne
  obtain ⟨Z, cl, si, seen, c0, h1, h2, h3, h4, h5, h6, h7, h8⟩ := h
  have hold : ∀ x ∈ (Z.map (·.2)).toArray.toList, x.born < si := fun x hx => by
    obtain ⟨z, hz, rfl⟩ := List.mem_map.1 (show x ∈ Z.map (·.2) from hx)
    exact h4 z hz
  have hleft : (Go.leftOf (Z.map (·.2)).toArray seen).toList = (Z.filter fun z => !seen.contains z.2.born).map (·.2) := by
    unfold Go.leftOf
    rw [Array.toList_filter]
    show List.filter _ (Z.map (·.2)) = _
    rw [List.filter_map]
    rfl
  rcases run_next_at w ty r m si c0 seen _ cl h3 h1 hold h5 with ⟨e0, hr⟩ | ⟨e, he, w1, hw1, hr⟩
  · left
    refine ⟨?_, hr⟩
    have : (Z.filter fun z => !seen.contains z.2.born).map (·.2) = [] := by
      rw [← hleft]
      exact List.eq_nil_of_length_eq_zero (by rw [Array.length_toList]; exact e0)
    rw [h8]
    rw [List.map_eq_nil_iff] at this ⊢
    exact this
  · right
    rw [hleft] at he
    obtain ⟨z, hz, rfl⟩ := List.mem_map.1 he
    obtain ⟨hz1, hz2⟩ := List.mem_filter.1 hz
    have hz2 : seen.contains z.2.born = false := by simpa using hz2
    obtain ⟨k1, k2⟩ := h2.1 z hz1
    have hw1h : w1.heap = w.heap := by rcases hw1 with rfl | rfl <;> rfl
    have hrl := heap_lt h3
    have hm2 : (Go.ChangeMaps.setBlock w1 r (.mapIter (some m) si (seen.push z.2.born) cl)).heap[m]? = some (.map (Z.map (·.2)).toArray cl) := by
      rw [(setB_only w1 r _).block m hmr, hw1h]; exact h1
    have hr2 : (Go.ChangeMaps.setBlock w1 r (.mapIter (some m) si (seen.push z.2.born) cl)).heap[r]? = some (.mapIter (some m) si (seen.push z.2.born) cl) := setB_at (by rw [hw1h]; exact hrl) _
    refine ⟨z.1, _, z.2.key, _, ?_, by rw [h7]; exact List.mem_map_of_mem hz1, k1, by rw [k2] at hr; exact hr, ⟨Z, cl, si, seen.push z.2.born, cl, hm2, h2, hr2, h4, h6, h6, h7, rfl⟩, ?_, ?_⟩
    · rw [h8]
      exact (perm_left h2.2.1 hz1 hz2).map (·.1)
    · have o := setB_only w1 r (.mapIter (some m) si (seen.push z.2.born) cl)
      refine ⟨o.os.trans ?_, o.tape.trans ?_, o.output.trans ?_, o.size.trans (by rw [hw1h]), fun k hk => (o.block k hk).trans (by rw [hw1h])⟩
      · rcases hw1 with rfl | rfl <;> rfl
      · rcases hw1 with rfl | rfl <;> rfl
      · rcases hw1 with rfl | rfl <;> rfl
    · have := run_entry_at (P := Tryd.prog) _ r m si seen (Z.map (·.2)).toArray cl z.2 hr2 hm2 (by show z.2 ∈ Z.map (·.2); exact List.mem_map_of_mem hz1) (by show ((Z.map (·.2)).map (·.born)).Nodup; rw [List.map_map]; exact h2.2.1)
      unfold EntryIs
      rw [this, k2]
theorem range_del {w : World} {m r : Nat} {L left : List (Ad × Pth)} {c : Ad × Pth} (h : RangeAt w m r L left) (hn : (L.map (·.1)).Nodup) (hc : c ∈ L) (hl : ∀ d ∈ left, d.1 ≠ c.1) {k : Value} (hk : KeyIs k c.1) (t : TypeId) : ∃ w', (Builtin.delete_ #[47, 30] t #[.map (some m), k]).run Tryd.prog w = .ok (.tuple #[]) w' ∧ RangeAt w' m r (L.filter (fun d => !decide (d.1 = c.1))) left ∧ Only m w w' := by
  have hmr := h.ne
  have hlt := h.lt
  obtain ⟨Z, cl, si, seen, c0, h1, h2, h3, h4, h5, h6, h7, h8⟩ := h
  have hes : EsAt (Z.map (·.1)) (Z.map (·.2)).toArray.toList := zip_es h2.1
  subst h7
  rcases find_asking hk w hes 0 with ⟨_, hno⟩ | ⟨j, c', e, hj, hcc, hno⟩
  · exact absurd rfl (hno c hc)
  · have hZ : (Z.eraseIdx j) = Z.filter (fun z => !decide (z.1.1 = c.1)) := by
      have key : ∀ (Z : Zz) (j : Nat) (c' : Ad × Pth), ((Z.map (·.1)).map (·.1)).Nodup → (Z.map (·.1))[j]? = some c' → c'.1 = c.1 → Z.eraseIdx j = Z.filter (fun z => !decide (z.1.1 = c.1)) := by
        intro Z
        induction Z with
        | nil => intro j c' _ h _; simp at h
        | cons z Z ih =>
          intro j c' hn h e
          rw [List.map_cons, List.map_cons, List.nodup_cons] at hn
          cases j with
          | zero =>
            simp at h
            subst h
            rw [List.eraseIdx_zero, List.tail_cons, List.filter_cons_of_neg (by simpa using e)]
            symm
            rw [List.filter_eq_self]
            intro d hd
            have : d.1.1 ≠ c.1 := fun e2 => hn.1 (by rw [e, ← e2]; exact List.mem_map_of_mem (List.mem_map_of_mem hd))
            simpa using this
          | succ j =>
            have h1 : (Z.map (·.1))[j]? = some c' := by simpa using h
            have hx : z.1.1 ≠ c.1 := fun e2 => hn.1 (by rw [e2, ← e]; exact List.mem_map_of_mem (List.mem_of_getElem? h1))
            rw [List.eraseIdx_cons_succ, ih j c' hn.2 h1 e, List.filter_cons_of_pos (by simpa using hx)]
      exact key Z j c' hn hj hcc
    have harr : (Z.map (·.2)).toArray.eraseIdxIfInBounds j = ((Z.filter (fun z => !decide (z.1.1 = c.1))).map (·.2)).toArray := by
      rw [← hZ]
      apply Array.toList_inj.1
      rw [Array.toList_eraseIdxIfInBounds]
      show (Z.map (·.2)).eraseIdx j = (Z.eraseIdx j).map (·.2)
      exact (eraseIdx_mapZ Z j).symm
    have o := setB_only w m (.map ((Z.filter (fun z => !decide (z.1.1 = c.1))).map (·.2)).toArray cl)
    refine ⟨Go.ChangeMaps.setBlock w m (.map ((Z.filter (fun z => !decide (z.1.1 = c.1))).map (·.2)).toArray cl), ?_, ⟨Z.filter (fun z => !decide (z.1.1 = c.1)), cl, si, seen, c0, setB_at hlt.1 _, ?_, (o.block r (fun e => hmr e.symm)).trans h3, fun z hz => h4 z (List.mem_filter.1 hz).1, h5, h6, ?_, ?_⟩, o⟩
    · rw [← harr]
      unfold Builtin.delete_
      have e : (Instr.findAsking 30 k (Z.map (·.2)) 0).run Tryd.prog w = .ok (some (0 + j, paA c'.2)) w := e
      simp [Sem.run_bind, run_underlying Tryd.underlying47 w, getObj, Sem.run, h1, e, chk_key hk, find_key]
      rw [run_setM h1]
      rfl
    · refine ⟨fun z hz => h2.1 z (List.mem_filter.1 hz).1, List.Nodup.sublist (List.Sublist.map _ List.filter_sublist) h2.2.1, fun z hz => h2.2.2 z (List.mem_filter.1 hz).1⟩
    · rw [List.filter_map]; rfl
    · rw [h8, List.filter_filter]
      congr 1
      refine List.filter_congr (fun z hz => ?_)
      by_cases hs : seen.contains z.2.born = true
      · rw [hs]; rfl
      · have hs : seen.contains z.2.born = false := by simpa using hs
        have : z.1.1 ≠ c.1 := hl z.1 (by rw [h8]; exact List.mem_map_of_mem (List.mem_filter.2 ⟨hz, by rw [hs]; rfl⟩))
        rw [hs]
        simp [this]
section
variable {ops : Array Oper} {rest : List Oper} {o : Oper} {a : Act} {w : World} {Q : Exit → Act → World → Prop}
theorem wl_range {x : Operand} {m : Nat} {L : List (Ad × Pth)} (ho : o.op = .range 47 x) (hw : Region.wanted o (yielded ops a.tmps) = true) (hx : a.eval x = .map (some m)) (hm : MapAt w m L)
    (h : ∀ r w', w.heap.size ≤ r → RangeAt w' m r L L → Below w.heap.size w w' → wpList Tryd.prog ops Q rest (a.put o.dst (.pointer (some ⟨r, 0, none⟩))) w') : wpList Tryd.prog ops Q (o :: rest) a w := by
  obtain ⟨w', hr, h1, h2, _⟩ := range_start hm
  refine wl_act hw ?_
  unfold Oper.wp execOp
  simp only [ho, hx, Sem.run_bind, hr, Result.andThen_ok, Sem.run_pure, Oper.upon]
  exact h _ _ (Nat.le_refl _) h1 h2
theorem wl_next {x : Operand} {m r : Nat} {L left : List (Ad × Pth)} (ho : o.op = .next x false) (hw : Region.wanted o (yielded ops a.tmps) = true) (hx : a.eval x = .pointer (some ⟨r, 0, none⟩)) (hm : RangeAt w m r L left)
    (h0 : left = [] → wpList Tryd.prog ops Q rest (a.put o.dst (.tuple #[.bool false])) w)
    (h : ∀ c left' key w', left.Perm (c :: left') → c ∈ L → KeyIs key c.1 → RangeAt w' m r L left' → Only r w w' → EntryIs w' r key c.2 → wpList Tryd.prog ops Q rest (a.put o.dst (.tuple #[.bool true, key, paA c.2])) w') : wpList Tryd.prog ops Q (o :: rest) a w := by
  refine wl_act hw ?_
  rcases range_next hm o.type with ⟨e, hr⟩ | ⟨c, left', key, w', h1, h2, h3, hr, h4, h5, h6⟩
  · unfold Oper.wp execOp
    simp only [ho, hx, Sem.run_bind, hr, Result.andThen_ok, Sem.run_pure, Oper.upon]
    exact h0 e
  · unfold Oper.wp execOp
    simp only [ho, hx, Sem.run_bind, hr, Result.andThen_ok, Sem.run_pure, Oper.upon]
    exact h c left' key w' h1 h2 h3 h4 h5 h6
theorem exec_entry {x : Operand} {r : Nat} {b : Pth} {key : Value} (ho : o.op = .entry x) (hx : a.eval x = .pointer (some ⟨r, 0, none⟩)) (he : EntryIs w r key b) : (execOp a.eval o).run Tryd.prog w = .ok (.value (.tuple #[key, paA b])) w := by
  unfold EntryIs at he
  unfold execOp
  simp only [ho, hx, Sem.run_bind, he, Result.andThen_ok, Sem.run_pure]
theorem wl_del {x y : Operand} {m : Nat} {L : List (Ad × Pth)} {k : Value} {F : Ad} (ho : o.op = .call { callee := .builtin .delete, args := #[x, y], argTypes := #[47, 30] }) (hw : Region.wanted o (yielded ops a.tmps) = true) (hx : a.eval x = .map (some m)) (hy : a.eval y = k) (hm : MapAt w m L) (hn : (L.map (·.1)).Nodup) (hk : KeyIs k F)
    (h : ∀ w', MapAt w' m (L.filter (fun c => !decide (c.1 = F))) → Only m w w' → wpList Tryd.prog ops Q rest (a.put o.dst (.tuple #[])) w') : wpList Tryd.prog ops Q (o :: rest) a w := by
  obtain ⟨w', hr, h1, h2⟩ := run_delF hm hn hk o.type
  refine wl_act hw ?_
  unfold Oper.wp
  simp [execOp, ho, resolve, invoke, builtin, hx, hy, hr, Oper.upon, Result.andThen]
  exact h _ h1 h2
theorem wl_delR {x y : Operand} {m r : Nat} {L left : List (Ad × Pth)} {k : Value} {c : Ad × Pth} (ho : o.op = .call { callee := .builtin .delete, args := #[x, y], argTypes := #[47, 30] }) (hw : Region.wanted o (yielded ops a.tmps) = true) (hx : a.eval x = .map (some m)) (hy : a.eval y = k) (hm : RangeAt w m r L left) (hn : (L.map (·.1)).Nodup) (hc : c ∈ L) (hl : ∀ d ∈ left, d.1 ≠ c.1) (hk : KeyIs k c.1)
    (h : ∀ w', RangeAt w' m r (L.filter (fun d => !decide (d.1 = c.1))) left → Only m w w' → wpList Tryd.prog ops Q rest (a.put o.dst (.tuple #[])) w') : wpList Tryd.prog ops Q (o :: rest) a w := by
  obtain ⟨w', hr, h1, h2⟩ := range_del hm hn hc hl hk o.type
  refine wl_act hw ?_
  unfold Oper.wp
  simp [execOp, ho, resolve, invoke, builtin, hx, hy, hr, Oper.upon, Result.andThen]
  exact h _ h1 h2
end
end Go.Proofs.YtojekoakgpkkdabDoor

/-
  Own text. The contract of strings.Join at this program.
-/
namespace Go.Proofs.YtojekoakgpkkdabDoor
open Go.Proofs Go.Shelf
set_option maxRecDepth 100000
def sh_lays156_ren : Go.Shelf.Ren := ⟨fun | 156 => 40 | 165 => 50 | 166 => 51 | 169 => 52 | 240 => 66 | 241 => 67 | 276 => 71 | 277 => 72 | n => n, fun | 31 => 87 | 9 => 9 | 3 => 3 | 4 => 4 | 0 => 0 | 20 => 20 | 72 => 97 | 76 => 100 | 70 => 95 | 37 => 86 | 75 => 99 | 127 => 119 | 164 => 121 | 5 => 5 | 80 => 102 | n => n, fun | n => n⟩
theorem sh_lays156 : Go.Proofs.Lays.n156 Tryd.prog sh_lays156_ren := {
  mixed := by kernel_rfl
  f156 := Tryd.func40.trans (congrArg some (by kernel_rfl))
  f165 := Tryd.func50.trans (congrArg some (by kernel_rfl))
  f166 := Tryd.func51.trans (congrArg some (by kernel_rfl))
  f169 := Tryd.func52.trans (congrArg some (by kernel_rfl))
  f240 := Tryd.func66.trans (congrArg some (by kernel_rfl))
  f241 := Tryd.func67.trans (congrArg some (by kernel_rfl))
  f276 := Tryd.func71.trans (congrArg some (by kernel_rfl))
  f277 := Tryd.func72.trans (congrArg some (by kernel_rfl))
  t0 := Tryd.underlying0
  a0 := Tryd.isAgg0
  z0 := Tryd.sizeOf0
  v0 := Tryd.zeroValue0
  t3 := Tryd.underlying3
  a3 := Tryd.isAgg3
  z3 := Tryd.sizeOf3
  v3 := Tryd.zeroValue3
  t4 := Tryd.underlying4
  a4 := Tryd.isAgg4
  z4 := Tryd.sizeOf4
  v4 := Tryd.zeroValue4
  t9 := Tryd.underlying9
  a9 := Tryd.isAgg9
  z9 := Tryd.sizeOf9
  v9 := Tryd.zeroValue9
  t20 := Tryd.underlying20
  a20 := Tryd.isAgg20
  z20 := Tryd.sizeOf20
  v20 := Tryd.zeroValue20
  t31 := Tryd.underlying87
  a31 := Tryd.isAgg87
  z31 := Tryd.sizeOf87
  v31 := Tryd.zeroValue87
  t37 := Tryd.underlying86
  a37 := Tryd.isAgg86
  z37 := Tryd.sizeOf86
  v37 := Tryd.zeroValue86
  t70 := Tryd.underlying95
  a70 := Tryd.isAgg95
  z70 := Tryd.sizeOf95
  v70 := Tryd.zeroValue95
  t72 := Tryd.underlying97
  a72 := Tryd.isAgg97
  z72 := Tryd.sizeOf97
  v72 := Tryd.zeroValue97
  t75 := Tryd.underlying99
  a75 := Tryd.isAgg99
  z75 := Tryd.sizeOf99
  v75 := Tryd.zeroValue99
  t76 := Tryd.underlying100
  a76 := Tryd.isAgg100
  z76 := Tryd.sizeOf100
  v76 := Tryd.zeroValue100
  t127 := Tryd.underlying119
  a127 := Tryd.isAgg119
  z127 := Tryd.sizeOf119
  v127 := Tryd.zeroValue119
  t164 := Tryd.underlying121
  a164 := Tryd.isAgg121
  z164 := Tryd.sizeOf121
  v164 := Tryd.zeroValue121 }
theorem sh_Builder_Extra_156 : Builder.Extra Tryd.prog sh_lays156_ren := {
  sizeBuilder := by kernel_rfl
  liesBuilder := by kernel_rfl
  t5 := Tryd.underlying5
  a5 := Tryd.isAgg5
  z5 := Tryd.sizeOf5
  v5 := Tryd.zeroValue5
  infoByte := by kernel_rfl
  cellsByte := by kernel_rfl
  sizeByte := by kernel_rfl
  neB5 := by decide }
open Go.RowKit in
theorem sh_strings_Join (bk o c : Nat) (xs : List ByteArray) (sep : ByteArray) (w : World) (hcells : ∀ (j : Nat) x, xs[j]? = some x → w.cell? ⟨bk, o + j, none⟩ = some (.string x)) (hbk : bk < w.heap.size) (hN : xs.length ≤ 140737488355328) (hcap : xs.length ≤ c) (hlen : (Lib.join (xs.map (·.data.toList)) sep.data.toList).length ≤ 140737488355328) :
    Calls Tryd.prog 40 #[.slice (some ⟨bk, o, none⟩) xs.length c, .string sep] w fun e w' => e = .returned (.string ⟨(Lib.join (xs.map (·.data.toList)) sep.data.toList).toArray⟩) ∧ Below w.heap.size w w' := Any.strings_Join sh_lays156 sh_Builder_Extra_156 bk o c xs sep w hcells hbk hN hcap hlen
end Go.Proofs.YtojekoakgpkkdabDoor

/-
  Own text. The program's messages: what may talk, the bytes of a message, reading them.
-/
namespace Go.Proofs.YtojekoakgpkkdabDoor
open Go.RowKit Go.Proofs
set_option maxRecDepth 100000
/-- A call, told by a contract. -/
theorem wl_cal {f : FuncId} (hc : ∀ args w, (callFunc f args).run Tryd.prog w = .ok (.enter f args) w) {vs : Array Value} {v : Value} {w : World} (hC : Hid (Calls Tryd.prog f vs w fun r w' => r = .returned v ∧ Below w.heap.size w w')) {xs : Array Operand} {ts : Array TypeId} {ops : Array Oper} {rest : List Oper} {Q : Exit → Act → World → Prop} {o : Oper} {a : Act}
    (ho : o.op = .call { callee := .value (.func f), args := xs, argTypes := ts }) (hw : Region.wanted o (yielded ops a.tmps) = true) (hx : xs.map a.eval = vs)
    (h : ∀ w', Below w.heap.size w w' → wpList Tryd.prog ops Q rest (a.put o.dst v) w') : wpList Tryd.prog ops Q (o :: rest) a w := wl_act hw (stepc hc ho hx hC.out h)
theorem cvN {a : Act} {o : Oper} {w : World} {N : Nat} {m : Int} {k : IntKind} (h : Hid (N = m.toNat)) (h2 : (execOp a.eval o).run Tryd.prog w = .ok (.value (.int k ((m.toNat : Nat) : Int))) w) : (execOp a.eval o).run Tryd.prog w = .ok (.value (.int k (N : Int))) w := by rw [h2, h.out]
theorem run_bsT1 (s : ByteArray) (w : World) : (Instr.buildSlice 87 1 #[(0, .string s)]).run Tryd.prog w = .ok (.slice (some ⟨w.heap.size, 0, none⟩) 1 1) (w.alloc (.cells #[.string s] 9)) := by simp [go_sem]
theorem run_bsT3' (s t u : ByteArray) (w : World) : (Instr.buildSlice 87 3 #[(0, .string s), (1, .string t), (2, .string u)]).run Tryd.prog w = .ok (.slice (some ⟨w.heap.size, 0, none⟩) 3 3) (w.alloc (.cells #[.string s, .string t, .string u] 9)) := by simp [go_sem]
theorem wl_bsT3 {ops : Array Oper} {rest : List Oper} {Q : Exit → Act → World → Prop} {o : Oper} {a : Act} {w : World} {x y z : Operand} (ho : o.op = .buildSlice 87 3 #[(0, x), (1, y), (2, z)]) (hw : Region.wanted o (yielded ops a.tmps) = true) {s t u : ByteArray} (hx : a.eval x = .string s) (hy : a.eval y = .string t) (hz : a.eval z = .string u)
    (h : ∀ g w', w.heap.size ≤ g → w'.heap[g]? = some (.cells #[.string s, .string t, .string u] 9 (0, 0)) → Below w.heap.size w w' → wpList Tryd.prog ops Q rest (a.put o.dst (.slice (some ⟨g, 0, none⟩) 3 3)) w') : wpList Tryd.prog ops Q (o :: rest) a w := by
  refine wl_act hw ?_
  have hr := run_bsT3' s t u w
  unfold Oper.wp execOp
  simp only [ho, List.map_toArray, List.map_cons, List.map_nil, hx, hy, hz, Sem.run_bind, hr, Result.andThen_ok, Sem.run_pure, Oper.upon]
  exact h _ _ (Nat.le_refl _) (heap_alloc_new w _) ((Below.refl _ w).alloc (Nat.le_refl _) _)
theorem act_bT1 {o : Oper} {a : Act} {w : World} {K : Act → World → Prop} {Q : Exit → Act → World → Prop} {x : Operand} (ho : o.op = .buildSlice 87 1 #[(0, x)]) {s : ByteArray} (hx : a.eval x = .string s)
    (h : ∀ w', Below w.heap.size w w' → w.heap.size ≤ w.heap.size → ContOK (isOb #[.string s] 9) w' w.heap.size → K (a.put o.dst (.slice (some ⟨w.heap.size, 0, none⟩) 1 1)) w') : o.wp Tryd.prog a w K Q := by
  have hr := run_bsT1 s w
  unfold Oper.wp execOp
  simp only [ho, List.map_toArray, List.map_cons, List.map_nil, hx, Sem.run_bind, hr, Result.andThen_ok, Sem.run_pure, Oper.upon]
  exact h _ ((Below.refl _ w).alloc (Nat.le_refl _) _) (Nat.le_refl _) (obIn (heap_alloc_new w _))
theorem act_bT2 {o : Oper} {a : Act} {w : World} {K : Act → World → Prop} {Q : Exit → Act → World → Prop} {x y : Operand} (ho : o.op = .buildSlice 87 2 #[(0, x), (1, y)]) {s t : ByteArray} (hx : a.eval x = .string s) (hy : a.eval y = .string t)
    (h : ∀ w', Below w.heap.size w w' → w.heap.size ≤ w.heap.size → ContOK (isOb #[.string s, .string t] 9) w' w.heap.size → K (a.put o.dst (.slice (some ⟨w.heap.size, 0, none⟩) 2 2)) w') : o.wp Tryd.prog a w K Q := by
  have hr := run_bsT2 s t w
  unfold Oper.wp execOp
  simp only [ho, List.map_toArray, List.map_cons, List.map_nil, hx, hy, Sem.run_bind, hr, Result.andThen_ok, Sem.run_pure, Oper.upon]
  exact h _ ((Below.refl _ w).alloc (Nat.le_refl _) _) (Nat.le_refl _) (obIn (heap_alloc_new w _))
theorem Sum3c (A B D : ByteArray) (w : World) (g : Nat) (hg : w.heap[g]? = some (.cells #[.string A, .string B, .string D] 9 (0, 0))) (hs : A.size + B.size + D.size ≤ 1000000) : Calls Tryd.prog 41 #[.slice (some ⟨g, 0, none⟩) 3 3] w fun e w' => e = .returned (.int .i64 (sumT (A ++ B ++ D))) ∧ Below w.heap.size w w' := by
  have hj : joinB (thr3 A B D) 3 = A ++ B ++ D := by simp [joinB, thr3]
  have hv : Strs w (.slice (some ⟨g, 0, none⟩) 3 3) 3 (thr3 A B D) := strs_row' hg (fun j hj => by
    match j, hj with
    | 0, _ => rfl
    | 1, _ => rfl
    | 2, _ => rfl)
  have := Sum_run _ 3 _ w hv (by decide) (by rw [hj, ByteArray.size_append, ByteArray.size_append]; omega)
  rw [hj] at this
  exact this.mono (fun e w' ⟨h1, h2⟩ => ⟨h1, h2 ▸ Below.refl _ _⟩)
theorem ba_back (s : ByteArray) : (⟨s.data.toList.toArray⟩ : ByteArray) = s := by
  cases s
  simp
theorem len_data (s : ByteArray) : s.data.toList.length = s.size := by
  rw [Array.length_toList]
  rfl
theorem en_wire_Valid (args : Array Value) (w : World) : (callFunc 10 args).run Tryd.prog w = .ok (.enter 10 args) w := by kernel_rfl
theorem en_wire_None (args : Array Value) (w : World) : (callFunc 36 args).run Tryd.prog w = .ok (.enter 36 args) w := by kernel_rfl
theorem en_wire_Group (args : Array Value) (w : World) : (callFunc 37 args).run Tryd.prog w = .ok (.enter 37 args) w := by kernel_rfl
theorem en_wire_Pseudo (args : Array Value) (w : World) : (callFunc 55 args).run Tryd.prog w = .ok (.enter 55 args) w := by kernel_rfl
theorem en_strings_Join (args : Array Value) (w : World) : (callFunc 40 args).run Tryd.prog w = .ok (.enter 40 args) w := by kernel_rfl
theorem en_icmp_sumHead (args : Array Value) (w : World) : (callFunc 42 args).run Tryd.prog w = .ok (.enter 42 args) w := by kernel_rfl
theorem en_wire_Sum (args : Array Value) (w : World) : (callFunc 41 args).run Tryd.prog w = .ok (.enter 41 args) w := by kernel_rfl
theorem en_wire_Put (args : Array Value) (w : World) : (callFunc 32 args).run Tryd.prog w = .ok (.enter 32 args) w := by kernel_rfl
theorem en_icmp_mayTalk (args : Array Value) (w : World) : (callFunc 31 args).run Tryd.prog w = .ok (.enter 31 args) w := by kernel_rfl
theorem en_icmp_upTo (args : Array Value) (w : World) : (callFunc 26 args).run Tryd.prog w = .ok (.enter 26 args) w := by kernel_rfl
theorem en_icmp_laid (args : Array Value) (w : World) : (callFunc 33 args).run Tryd.prog w = .ok (.enter 33 args) w := by kernel_rfl
theorem en_wire_Get (args : Array Value) (w : World) : (callFunc 46 args).run Tryd.prog w = .ok (.enter 46 args) w := by kernel_rfl
theorem Join1 (s : ByteArray) (w : World) (g : Nat) (hg : w.heap[g]? = some (.cells #[.string s] 9 (0, 0))) (hs : s.size ≤ 1000000) : Calls Tryd.prog 40 #[.slice (some ⟨g, 0, none⟩) 1 1, .string ByteArray.empty] w fun e w' => e = .returned (.string s) ∧ Below w.heap.size w w' := by
  have h := sh_strings_Join g 0 1 [s] ByteArray.empty w (fun j x hj => by
    rw [cell_of_row w g _ _ _ _ hg]
    match j, hj with
    | 0, hj => simpa using hj) (heap_lt hg) (show 1 ≤ 140737488355328 by decide) (show 1 ≤ 1 by decide) (by
      simp only [List.map_cons, List.map_nil, Lib.join_one]
      rw [len_data]
      omega)
  simp only [List.map_cons, List.map_nil, Lib.join_one, ba_back] at h
  exact h
theorem Join2 (s t : ByteArray) (w : World) (g : Nat) (hg : w.heap[g]? = some (.cells #[.string s, .string t] 9 (0, 0))) (hs : s.size + t.size ≤ 1000000) : Calls Tryd.prog 40 #[.slice (some ⟨g, 0, none⟩) 2 2, .string ByteArray.empty] w fun e w' => e = .returned (.string (s ++ t)) ∧ Below w.heap.size w w' := by
  have e : Lib.join [s.data.toList, t.data.toList] ByteArray.empty.data.toList = (s ++ t).data.toList := by
    show Lib.join [s.data.toList, t.data.toList] [] = _
    simp [Lib.join, List.intercalate]
  have h := sh_strings_Join g 0 2 [s, t] ByteArray.empty w (fun j x hj => by
    rw [cell_of_row w g _ _ _ _ hg]
    match j, hj with
    | 0, hj => simpa using hj
    | 1, hj => simpa using hj) (heap_lt hg) (show 2 ≤ 140737488355328 by decide) (show 2 ≤ 2 by decide) (by
      simp only [List.map_cons, List.map_nil]
      rw [e, len_data, ByteArray.size_append]
      omega)
  simp only [List.map_cons, List.map_nil] at h
  rw [e, ba_back] at h
  exact h
set_option linter.unusedSimpArgs false in
set_option maxHeartbeats 4000000 in
theorem iUpTo_run (n m : Int) (w : World) : Calls Tryd.prog 26 #[.int .i64 n, .int .i64 m] w fun e w' => e = .returned (.bool (upB n m)) ∧ Below w.heap.size w w' := by
  generalize hRV : (.bool (upB n m) : Value) = RV
  have HRV := Hid.mk hRV
  clear hRV
  go_enter Tryd.func26, Tryd.ntmps26
  rcases Bool.eq_false_or_eq_true (decide (0 ≤ n)) with hb1 | hb1
  · have Hhb1 := Hid.mk hb1
    clear hb1
    have HDhb1 := Hid.mk (of_decide_eq_true Hhb1.out)
    go_wp2_with (refine wl_value rfl (kn_ (c := true) Hhb1 (cmp_ge (m := n) (n := 0) rfl rfl rfl)) ?_; refine Hid.out ?_)
    refine Hid.mk ?_
    rcases Bool.eq_false_or_eq_true (decide (n ≤ m)) with hb2 | hb2
    · have Hhb2 := Hid.mk hb2
      clear hb2
      have HDhb2 := Hid.mk (of_decide_eq_true Hhb2.out)
      go_wp2_with (refine wl_value rfl (kn_ (c := true) Hhb2 (cmp_le (m := n) (n := m) rfl rfl rfl)) ?_; refine Hid.out ?_)
      refine Hid.mk ?_
      go_wp2_with fail
      have hv : (upB n m) = true := by simp [upB, Hhb1.out, Hhb2.out]
      go_ret
      exact ⟨Eq.trans (rfl : _ = Ending.returned (.bool true)) (by rw [← HRV.out, hv]), (Below.refl _ _)⟩
    · have Hhb2 := Hid.mk hb2
      clear hb2
      have HDhb2 := Hid.mk (of_decide_eq_false Hhb2.out)
      go_wp2_with (refine wl_value rfl (kn_ (c := false) Hhb2 (cmp_le (m := n) (n := m) rfl rfl rfl)) ?_; refine Hid.out ?_)
      refine Hid.mk ?_
      go_wp2_with fail
      have hv : (upB n m) = false := by simp [upB, Hhb1.out, Hhb2.out]
      go_ret
      exact ⟨Eq.trans (rfl : _ = Ending.returned (.bool false)) (by rw [← HRV.out, hv]), (Below.refl _ _)⟩
  · have Hhb1 := Hid.mk hb1
    clear hb1
    have HDhb1 := Hid.mk (of_decide_eq_false Hhb1.out)
    go_wp2_with (refine wl_value rfl (kn_ (c := false) Hhb1 (cmp_ge (m := n) (n := 0) rfl rfl rfl)) ?_; refine Hid.out ?_)
    refine Hid.mk ?_
    go_wp2_with fail
    have hv : (upB n m) = false := by simp [upB, Hhb1.out]
    go_ret
    exact ⟨Eq.trans (rfl : _ = Ending.returned (.bool false)) (by rw [← HRV.out, hv]), (Below.refl _ _)⟩
set_option linter.unusedSimpArgs false in
set_option maxHeartbeats 4000000 in
theorem isKind_run (k : Int) (w : World) : Calls Tryd.prog 24 #[.int .i64 k] w fun e w' => e = .returned (.bool (upB (k - 1) 5)) ∧ Below w.heap.size w w' := by
  generalize hRV : (.bool (upB (k - 1) 5) : Value) = RV
  have HRV := Hid.mk hRV
  clear hRV
  go_enter Tryd.func24, Tryd.ntmps24
  rcases Bool.eq_false_or_eq_true (decide (1 ≤ k)) with hb1 | hb1
  · have Hhb1 := Hid.mk hb1
    clear hb1
    have HDhb1 := Hid.mk (of_decide_eq_true Hhb1.out)
    go_wp2_with (refine wl_value rfl (kn_ (c := true) Hhb1 (cmp_ge (m := k) (n := 1) rfl rfl rfl)) ?_; refine Hid.out ?_)
    refine Hid.mk ?_
    rcases Bool.eq_false_or_eq_true (decide (k ≤ 6)) with hb2 | hb2
    · have Hhb2 := Hid.mk hb2
      clear hb2
      have HDhb2 := Hid.mk (of_decide_eq_true Hhb2.out)
      go_wp2_with (refine wl_value rfl (kn_ (c := true) Hhb2 (cmp_le (m := k) (n := 6) rfl rfl rfl)) ?_; refine Hid.out ?_)
      refine Hid.mk ?_
      go_wp2_with fail
      have hv : upB (k - 1) 5 = true := by rw [upB_iff]; have := HDhb1.out; have := HDhb2.out; omega
      go_ret
      exact ⟨Eq.trans (rfl : _ = Ending.returned (.bool true)) (by rw [← HRV.out, hv]), (Below.refl _ _)⟩
    · have Hhb2 := Hid.mk hb2
      clear hb2
      have HDhb2 := Hid.mk (of_decide_eq_false Hhb2.out)
      go_wp2_with (refine wl_value rfl (kn_ (c := false) Hhb2 (cmp_le (m := k) (n := 6) rfl rfl rfl)) ?_; refine Hid.out ?_)
      refine Hid.mk ?_
      go_wp2_with fail
      have hv : upB (k - 1) 5 = false := by rw [Bool.eq_false_iff, Ne, upB_iff]; have := HDhb1.out; have := HDhb2.out; omega
      go_ret
      exact ⟨Eq.trans (rfl : _ = Ending.returned (.bool false)) (by rw [← HRV.out, hv]), (Below.refl _ _)⟩
  · have Hhb1 := Hid.mk hb1
    clear hb1
    have HDhb1 := Hid.mk (of_decide_eq_false Hhb1.out)
    go_wp2_with (refine wl_value rfl (kn_ (c := false) Hhb1 (cmp_ge (m := k) (n := 1) rfl rfl rfl)) ?_; refine Hid.out ?_)
    refine Hid.mk ?_
    go_wp2_with fail
    have hv : upB (k - 1) 5 = false := by rw [Bool.eq_false_iff, Ne, upB_iff]; have := HDhb1.out; omega
    go_ret
    exact ⟨Eq.trans (rfl : _ = Ending.returned (.bool false)) (by rw [← HRV.out, hv]), (Below.refl _ _)⟩
set_option linter.unusedSimpArgs false in
set_option maxHeartbeats 4000000 in
theorem mayTalk_run (v1 : Bool) (b1 : Nat → Int) (v2 : Bool) (b2 : Nat → Int) (w : World) : Calls Tryd.prog 31 #[.agg (SC 17 (adV v1 b1)), .agg (SC 17 (adV v2 b2))] w fun e w' => e = .returned (.bool (endsB v1 b1 v2 b2)) ∧ Below w.heap.size w w' := by
  generalize hRV : (.bool (endsB v1 b1 v2 b2) : Value) = RV
  have HRV := Hid.mk hRV
  clear hRV
  go_enter Tryd.func31, Tryd.ntmps31
  go_wp2_with (refine wl_boxO (V := adV v1 b1) rfl rfl isAddr rfl ?_; intro g1 w1 hg1 s1 hB1; refine Hid.out ?_)
  refine Hid.mk ?_
  have hz2 : w.heap.size ≤ g1 := by omega
  have hbt3 := hB1
  clear hB1 hg1
  go_wp2_with (refine wl_boxO (V := adV v2 b2) rfl rfl isAddr rfl ?_; intro g4 w4 hg4 s4 hB4; refine Hid.out ?_)
  refine Hid.mk ?_
  have hn5 : g1 ≠ g4 := by have := s1.lt; omega
  have hz6 : w.heap.size ≤ g4 := by have := hbt3.size; omega
  have s7 := s1.kept hB4
  clear s1
  have hbt8 := hbt3.trans (hB4.mono hbt3.size)
  clear hbt3
  clear hB4 hg4
  go_wp2_with (refine wl_value rfl (look_st rfl isAddr s7 rfl) ?_; refine Hid.out ?_)
  refine Hid.mk ?_
  rcases Bool.eq_false_or_eq_true (validF v1 b1) with hb9 | hb9
  · have Hhb9 := Hid.mk hb9
    clear hb9
    have HC10 : Hid (Calls Tryd.prog 10 #[.agg (SC 17 (adV v1 b1))] w4 fun e w' => e = .returned (.bool true) ∧ Below w4.heap.size w4 w') := Hid.mk (by have h := Valid_run v1 b1 w4; rw [Hhb9.out] at h; exact h)
    go_wp2_with (refine wl_cal en_wire_Valid HC10 rfl rfl (args1 rfl) ?_; intro w11 hB11; refine Hid.out ?_)
    refine Hid.mk ?_
    clear HC10
    have s12 := s7.kept hB11
    clear s7
    have s13 := s4.kept hB11
    clear s4
    have hbt14 := hbt8.trans (hB11.mono hbt8.size)
    clear hbt8
    clear hB11
    go_wp2_with (refine wl_value rfl (look_st rfl isAddr s13 rfl) ?_; refine Hid.out ?_)
    refine Hid.mk ?_
    rcases Bool.eq_false_or_eq_true (validF v2 b2) with hb15 | hb15
    · have Hhb15 := Hid.mk hb15
      clear hb15
      have HC16 : Hid (Calls Tryd.prog 10 #[.agg (SC 17 (adV v2 b2))] w11 fun e w' => e = .returned (.bool true) ∧ Below w11.heap.size w11 w') := Hid.mk (by have h := Valid_run v2 b2 w11; rw [Hhb15.out] at h; exact h)
      go_wp2_with (refine wl_cal en_wire_Valid HC16 rfl rfl (args1 rfl) ?_; intro w17 hB17; refine Hid.out ?_)
      refine Hid.mk ?_
      clear HC16
      have s18 := s12.kept hB17
      clear s12
      have s19 := s13.kept hB17
      clear s13
      have hbt20 := hbt14.trans (hB17.mono hbt14.size)
      clear hbt14
      clear hB17
      go_wp2_with (refine wl_value rfl (exec_fad0 rfl rfl) ?_; refine Hid.out ?_)
      refine Hid.mk ?_
      rcases Bool.eq_false_or_eq_true (v1) with hb21 | hb21
      · have Hhb21 := Hid.mk hb21
        clear hb21
        go_wp2_with (refine wl_value rfl (kn_ (c := true) Hhb21 (exec_ld rfl rfl (ldB (SAt.at s18 0 (by decide))))) ?_; refine Hid.out ?_)
        refine Hid.mk ?_
        go_wp2_with (refine wl_value rfl (exec_fad0 rfl rfl) ?_; refine Hid.out ?_)
        refine Hid.mk ?_
        rcases Bool.eq_false_or_eq_true (v2) with hb22 | hb22
        · have Hhb22 := Hid.mk hb22
          clear hb22
          go_wp2_with (refine wl_value rfl (kn_ (c := true) Hhb22 (exec_ld rfl rfl (ldB (SAt.at s19 0 (by decide))))) ?_; refine Hid.out ?_)
          refine Hid.mk ?_
          have HK23 : Hid ((true == true) = true) := Hid.mk rfl
          go_wp2_with (refine wl_value rfl (kn_ (c := true) HK23 (cmp_eqB (m := true) (n := true) rfl rfl rfl)) ?_; refine Hid.out ?_)
          refine Hid.mk ?_
          go_wp2_with fail
          have hv : (endsB v1 b1 v2 b2) = true := by unfold endsB; (try simp only [Hhb9.out, Hhb15.out, HK23.out]) <;> simp [Hhb9.out, Hhb15.out, HK23.out, Hhb21.out, Hhb22.out]
          go_ret
          exact ⟨Eq.trans (rfl : _ = Ending.returned (.bool true)) (by rw [← HRV.out, hv]), hbt20⟩
        · have Hhb22 := Hid.mk hb22
          clear hb22
          go_wp2_with (refine wl_value rfl (kn_ (c := false) Hhb22 (exec_ld rfl rfl (ldB (SAt.at s19 0 (by decide))))) ?_; refine Hid.out ?_)
          refine Hid.mk ?_
          have HK24 : Hid ((true == false) = false) := Hid.mk rfl
          go_wp2_with (refine wl_value rfl (kn_ (c := false) HK24 (cmp_eqB (m := true) (n := false) rfl rfl rfl)) ?_; refine Hid.out ?_)
          refine Hid.mk ?_
          go_wp2_with fail
          have hv : (endsB v1 b1 v2 b2) = false := by unfold endsB; (try simp only [Hhb9.out, Hhb15.out, HK24.out]) <;> simp [Hhb9.out, Hhb15.out, HK24.out, Hhb21.out, Hhb22.out]
          go_ret
          exact ⟨Eq.trans (rfl : _ = Ending.returned (.bool false)) (by rw [← HRV.out, hv]), hbt20⟩
      · have Hhb21 := Hid.mk hb21
        clear hb21
        go_wp2_with (refine wl_value rfl (kn_ (c := false) Hhb21 (exec_ld rfl rfl (ldB (SAt.at s18 0 (by decide))))) ?_; refine Hid.out ?_)
        refine Hid.mk ?_
        go_wp2_with (refine wl_value rfl (exec_fad0 rfl rfl) ?_; refine Hid.out ?_)
        refine Hid.mk ?_
        rcases Bool.eq_false_or_eq_true (v2) with hb25 | hb25
        · have Hhb25 := Hid.mk hb25
          clear hb25
          go_wp2_with (refine wl_value rfl (kn_ (c := true) Hhb25 (exec_ld rfl rfl (ldB (SAt.at s19 0 (by decide))))) ?_; refine Hid.out ?_)
          refine Hid.mk ?_
          have HK26 : Hid ((false == true) = false) := Hid.mk rfl
          go_wp2_with (refine wl_value rfl (kn_ (c := false) HK26 (cmp_eqB (m := false) (n := true) rfl rfl rfl)) ?_; refine Hid.out ?_)
          refine Hid.mk ?_
          go_wp2_with fail
          have hv : (endsB v1 b1 v2 b2) = false := by unfold endsB; (try simp only [Hhb9.out, Hhb15.out, HK26.out]) <;> simp [Hhb9.out, Hhb15.out, HK26.out, Hhb21.out, Hhb25.out]
          go_ret
          exact ⟨Eq.trans (rfl : _ = Ending.returned (.bool false)) (by rw [← HRV.out, hv]), hbt20⟩
        · have Hhb25 := Hid.mk hb25
          clear hb25
          go_wp2_with (refine wl_value rfl (kn_ (c := false) Hhb25 (exec_ld rfl rfl (ldB (SAt.at s19 0 (by decide))))) ?_; refine Hid.out ?_)
          refine Hid.mk ?_
          have HK27 : Hid ((false == false) = true) := Hid.mk rfl
          go_wp2_with (refine wl_value rfl (kn_ (c := true) HK27 (cmp_eqB (m := false) (n := false) rfl rfl rfl)) ?_; refine Hid.out ?_)
          refine Hid.mk ?_
          go_wp2_with fail
          have hv : (endsB v1 b1 v2 b2) = true := by unfold endsB; (try simp only [Hhb9.out, Hhb15.out, HK27.out]) <;> simp [Hhb9.out, Hhb15.out, HK27.out, Hhb21.out, Hhb25.out]
          go_ret
          exact ⟨Eq.trans (rfl : _ = Ending.returned (.bool true)) (by rw [← HRV.out, hv]), hbt20⟩
    · have Hhb15 := Hid.mk hb15
      clear hb15
      have HC28 : Hid (Calls Tryd.prog 10 #[.agg (SC 17 (adV v2 b2))] w11 fun e w' => e = .returned (.bool false) ∧ Below w11.heap.size w11 w') := Hid.mk (by have h := Valid_run v2 b2 w11; rw [Hhb15.out] at h; exact h)
      go_wp2_with (refine wl_cal en_wire_Valid HC28 rfl rfl (args1 rfl) ?_; intro w29 hB29; refine Hid.out ?_)
      refine Hid.mk ?_
      clear HC28
      have s30 := s12.kept hB29
      clear s12
      have s31 := s13.kept hB29
      clear s13
      have hbt32 := hbt14.trans (hB29.mono hbt14.size)
      clear hbt14
      clear hB29
      go_wp2_with fail
      have hv : (endsB v1 b1 v2 b2) = false := by unfold endsB; simp [Hhb9.out, Hhb15.out]
      go_ret
      exact ⟨Eq.trans (rfl : _ = Ending.returned (.bool false)) (by rw [← HRV.out, hv]), hbt32⟩
  · have Hhb9 := Hid.mk hb9
    clear hb9
    have HC33 : Hid (Calls Tryd.prog 10 #[.agg (SC 17 (adV v1 b1))] w4 fun e w' => e = .returned (.bool false) ∧ Below w4.heap.size w4 w') := Hid.mk (by have h := Valid_run v1 b1 w4; rw [Hhb9.out] at h; exact h)
    go_wp2_with (refine wl_cal en_wire_Valid HC33 rfl rfl (args1 rfl) ?_; intro w34 hB34; refine Hid.out ?_)
    refine Hid.mk ?_
    clear HC33
    have s35 := s7.kept hB34
    clear s7
    have s36 := s4.kept hB34
    clear s4
    have hbt37 := hbt8.trans (hB34.mono hbt8.size)
    clear hbt8
    clear hB34
    go_wp2_with fail
    have hv : (endsB v1 b1 v2 b2) = false := by unfold endsB; simp [Hhb9.out]
    go_ret
    exact ⟨Eq.trans (rfl : _ = Ending.returned (.bool false)) (by rw [← HRV.out, hv]), hbt37⟩
set_option linter.unusedSimpArgs false in
set_option maxHeartbeats 4000000 in
theorem isOne_run (v : Bool) (b : Nat → Int) (w : World) : Calls Tryd.prog 22 #[.agg (SC 17 (adV v b))] w fun e w' => e = .returned (.bool (oneB v b)) ∧ Below w.heap.size w w' := by
  generalize hRV : (.bool (oneB v b) : Value) = RV
  have HRV := Hid.mk hRV
  clear hRV
  go_enter Tryd.func22, Tryd.ntmps22
  go_wp2_with (refine wl_boxO (V := adV v b) rfl rfl isAddr rfl ?_; intro g1 w1 hg1 s1 hB1; refine Hid.out ?_)
  refine Hid.mk ?_
  have hz2 : w.heap.size ≤ g1 := by omega
  have hbt3 := hB1
  clear hB1 hg1
  go_wp2_with (refine wl_value rfl (look_st rfl isAddr s1 rfl) ?_; refine Hid.out ?_)
  refine Hid.mk ?_
  rcases Bool.eq_false_or_eq_true (validF v b) with hb4 | hb4
  · have Hhb4 := Hid.mk hb4
    clear hb4
    have HC5 : Hid (Calls Tryd.prog 10 #[.agg (SC 17 (adV v b))] w1 fun e w' => e = .returned (.bool true) ∧ Below w1.heap.size w1 w') := Hid.mk (by have h := Valid_run v b w1; rw [Hhb4.out] at h; exact h)
    go_wp2_with (refine wl_cal en_wire_Valid HC5 rfl rfl (args1 rfl) ?_; intro w6 hB6; refine Hid.out ?_)
    refine Hid.mk ?_
    clear HC5
    have s7 := s1.kept hB6
    clear s1
    have hbt8 := hbt3.trans (hB6.mono hbt3.size)
    clear hbt3
    clear hB6
    go_wp2_with (refine wl_value rfl (look_st rfl isAddr s7 rfl) ?_; refine Hid.out ?_)
    refine Hid.mk ?_
    rcases Bool.eq_false_or_eq_true (noneF b) with hb9 | hb9
    · have Hhb9 := Hid.mk hb9
      clear hb9
      have HC10 : Hid (Calls Tryd.prog 36 #[.agg (SC 17 (adV v b))] w6 fun e w' => e = .returned (.bool true) ∧ Below w6.heap.size w6 w') := Hid.mk (by have h := None_run v b w6; rw [Hhb9.out] at h; exact h)
      go_wp2_with (refine wl_cal en_wire_None HC10 rfl rfl (args1 rfl) ?_; intro w11 hB11; refine Hid.out ?_)
      refine Hid.mk ?_
      clear HC10
      have s12 := s7.kept hB11
      clear s7
      have hbt13 := hbt8.trans (hB11.mono hbt8.size)
      clear hbt8
      clear hB11
      go_wp2_with fail
      have hv : (oneB v b) = false := by simp [oneB, Hhb4.out, Hhb9.out]
      go_ret
      exact ⟨Eq.trans (rfl : _ = Ending.returned (.bool false)) (by rw [← HRV.out, hv]), hbt13⟩
    · have Hhb9 := Hid.mk hb9
      clear hb9
      have HC14 : Hid (Calls Tryd.prog 36 #[.agg (SC 17 (adV v b))] w6 fun e w' => e = .returned (.bool false) ∧ Below w6.heap.size w6 w') := Hid.mk (by have h := None_run v b w6; rw [Hhb9.out] at h; exact h)
      go_wp2_with (refine wl_cal en_wire_None HC14 rfl rfl (args1 rfl) ?_; intro w15 hB15; refine Hid.out ?_)
      refine Hid.mk ?_
      clear HC14
      have s16 := s7.kept hB15
      clear s7
      have hbt17 := hbt8.trans (hB15.mono hbt8.size)
      clear hbt8
      clear hB15
      go_wp2_with (refine wl_value rfl (look_st rfl isAddr s16 rfl) ?_; refine Hid.out ?_)
      refine Hid.mk ?_
      rcases Bool.eq_false_or_eq_true (groupF v b) with hb18 | hb18
      · have Hhb18 := Hid.mk hb18
        clear hb18
        have HC19 : Hid (Calls Tryd.prog 37 #[.agg (SC 17 (adV v b))] w15 fun e w' => e = .returned (.bool true) ∧ Below w15.heap.size w15 w') := Hid.mk (by have h := Group_run v b w15; rw [Hhb18.out] at h; exact h)
        go_wp2_with (refine wl_cal en_wire_Group HC19 rfl rfl (args1 rfl) ?_; intro w20 hB20; refine Hid.out ?_)
        refine Hid.mk ?_
        clear HC19
        have s21 := s16.kept hB20
        clear s16
        have hbt22 := hbt17.trans (hB20.mono hbt17.size)
        clear hbt17
        clear hB20
        go_wp2_with fail
        have hv : (oneB v b) = false := by simp [oneB, Hhb4.out, Hhb9.out, Hhb18.out]
        go_ret
        exact ⟨Eq.trans (rfl : _ = Ending.returned (.bool false)) (by rw [← HRV.out, hv]), hbt22⟩
      · have Hhb18 := Hid.mk hb18
        clear hb18
        have HC23 : Hid (Calls Tryd.prog 37 #[.agg (SC 17 (adV v b))] w15 fun e w' => e = .returned (.bool false) ∧ Below w15.heap.size w15 w') := Hid.mk (by have h := Group_run v b w15; rw [Hhb18.out] at h; exact h)
        go_wp2_with (refine wl_cal en_wire_Group HC23 rfl rfl (args1 rfl) ?_; intro w24 hB24; refine Hid.out ?_)
        refine Hid.mk ?_
        clear HC23
        have s25 := s16.kept hB24
        clear s16
        have hbt26 := hbt17.trans (hB24.mono hbt17.size)
        clear hbt17
        clear hB24
        go_wp2_with fail
        have hv : (oneB v b) = true := by simp [oneB, Hhb4.out, Hhb9.out, Hhb18.out]
        go_ret
        exact ⟨Eq.trans (rfl : _ = Ending.returned (.bool true)) (by rw [← HRV.out, hv]), hbt26⟩
  · have Hhb4 := Hid.mk hb4
    clear hb4
    have HC27 : Hid (Calls Tryd.prog 10 #[.agg (SC 17 (adV v b))] w1 fun e w' => e = .returned (.bool false) ∧ Below w1.heap.size w1 w') := Hid.mk (by have h := Valid_run v b w1; rw [Hhb4.out] at h; exact h)
    go_wp2_with (refine wl_cal en_wire_Valid HC27 rfl rfl (args1 rfl) ?_; intro w28 hB28; refine Hid.out ?_)
    refine Hid.mk ?_
    clear HC27
    have s29 := s1.kept hB28
    clear s1
    have hbt30 := hbt3.trans (hB28.mono hbt3.size)
    clear hbt3
    clear hB28
    go_wp2_with fail
    have hv : (oneB v b) = false := by simp [oneB, Hhb4.out]
    go_ret
    exact ⟨Eq.trans (rfl : _ = Ending.returned (.bool false)) (by rw [← HRV.out, hv]), hbt30⟩
set_option linter.unusedSimpArgs false in
set_option maxHeartbeats 4000000 in
theorem sumHead_false (b1 b2 : Nat → Int) (n : Nat) (w : World) (_hb1 : Byts 16 b1) (_hb2 : Byts 16 b2) (h1 : validF false b1 = true) (h2 : validF false b2 = true) (hn : n ≤ 65535) : Calls Tryd.prog 42 #[.agg (SC 17 (adV false b1)), .agg (SC 17 (adV false b2)), .int .i64 (n : Int)] w fun e w' => e = .returned (.string (psH false b1 b2 n)) ∧ Below w.heap.size w w' := by
  generalize hRV : (.string (psH false b1 b2 n) : Value) = RV
  have HRV := Hid.mk hRV
  clear hRV
  have HN := Hid.mk hn
  have HV := Hid.mk (And.intro h1 h2)
  clear hn h1 h2
  go_enter Tryd.func42, Tryd.ntmps42
  go_wp2_with (refine wl_boxO (V := adV false b1) rfl rfl isAddr rfl ?_; intro g1 w1 hg1 s1 hB1; refine Hid.out ?_)
  refine Hid.mk ?_
  have hz2 : w.heap.size ≤ g1 := by omega
  have hbt3 := hB1
  clear hB1 hg1
  go_wp2_with (refine wl_boxO (V := adV false b2) rfl rfl isAddr rfl ?_; intro g4 w4 hg4 s4 hB4; refine Hid.out ?_)
  refine Hid.mk ?_
  have hn5 : g1 ≠ g4 := by have := s1.lt; omega
  have hz6 : w.heap.size ≤ g4 := by have := hbt3.size; omega
  have s7 := s1.kept hB4
  clear s1
  have hbt8 := hbt3.trans (hB4.mono hbt3.size)
  clear hbt3
  clear hB4 hg4
  go_wp2_with (refine wl_value rfl (exec_fad0 rfl rfl) ?_; refine Hid.out ?_)
  refine Hid.mk ?_
  go_wp2_with (refine wl_value rfl (exec_ld rfl rfl (ldB (SAt.at s7 0 (by decide)))) ?_; refine Hid.out ?_)
  refine Hid.mk ?_
  go_wp2_with fail
  go_ret
  exact ⟨Eq.trans (rfl : _ = Ending.returned (.string ByteArray.empty)) (by rw [← HRV.out] <;> rfl), hbt8⟩
set_option linter.unusedSimpArgs false in
set_option maxHeartbeats 4000000 in
theorem sumHead_true (b1 b2 : Nat → Int) (n : Nat) (w : World) (hb1 : Byts 16 b1) (hb2 : Byts 16 b2) (h1 : validF true b1 = true) (h2 : validF true b2 = true) (hn : n ≤ 65535) : Calls Tryd.prog 42 #[.agg (SC 17 (adV true b1)), .agg (SC 17 (adV true b2)), .int .i64 (n : Int)] w fun e w' => e = .returned (.string (psH true b1 b2 n)) ∧ Below w.heap.size w w' := by
  generalize hRV : (.string (psH true b1 b2 n) : Value) = RV
  have HRV := Hid.mk hRV
  clear hRV
  have HN := Hid.mk hn
  have HV := Hid.mk (And.intro h1 h2)
  clear hn h1 h2
  go_enter Tryd.func42, Tryd.ntmps42
  go_wp2_with (refine wl_boxO (V := adV true b1) rfl rfl isAddr rfl ?_; intro g1 w1 hg1 s1 hB1; refine Hid.out ?_)
  refine Hid.mk ?_
  have hz2 : w.heap.size ≤ g1 := by omega
  have hbt3 := hB1
  clear hB1 hg1
  go_wp2_with (refine wl_boxO (V := adV true b2) rfl rfl isAddr rfl ?_; intro g4 w4 hg4 s4 hB4; refine Hid.out ?_)
  refine Hid.mk ?_
  have hn5 : g1 ≠ g4 := by have := s1.lt; omega
  have hz6 : w.heap.size ≤ g4 := by have := hbt3.size; omega
  have s7 := s1.kept hB4
  clear s1
  have hbt8 := hbt3.trans (hB4.mono hbt3.size)
  clear hbt3
  clear hB4 hg4
  go_wp2_with (refine wl_value rfl (exec_fad0 rfl rfl) ?_; refine Hid.out ?_)
  refine Hid.mk ?_
  go_wp2_with (refine wl_value rfl (exec_ld rfl rfl (ldB (SAt.at s7 0 (by decide)))) ?_; refine Hid.out ?_)
  refine Hid.mk ?_
  go_wp2_with (refine wl_value rfl (look_st rfl isAddr s7 rfl) ?_; refine Hid.out ?_)
  refine Hid.mk ?_
  go_wp2_with (refine wl_value rfl (look_st rfl isAddr s4 rfl) ?_; refine Hid.out ?_)
  refine Hid.mk ?_
  have HC9 : Hid (Calls Tryd.prog 55 #[.agg (SC 17 (adV true b1)), .agg (SC 17 (adV true b2)), .int .i64 58, .int .i64 ((n : Nat) : Int)] w4 fun e w' => e = .returned (.string (pseT true b1 true b2 58 n)) ∧ Below w4.heap.size w4 w') := Hid.mk (by have h := Pseudo_run true b1 b2 58 n w4 hb1 hb2 HV.out.1 HV.out.2 (by decide) (by have := HN.out; omega); exact h)
  go_wp2_with (refine wl_cal en_wire_Pseudo HC9 rfl rfl (args4 rfl rfl rfl rfl) ?_; intro w10 hB10; refine Hid.out ?_)
  refine Hid.mk ?_
  clear HC9
  have s11 := s7.kept hB10
  clear s7
  have s12 := s4.kept hB10
  clear s4
  have hbt13 := hbt8.trans (hB10.mono hbt8.size)
  clear hbt8
  clear hB10
  go_wp2_with fail
  go_ret
  exact ⟨Eq.trans (rfl : _ = Ending.returned (.string (pseT true b1 true b2 58 n))) (by rw [← HRV.out] <;> rfl), hbt13⟩
theorem sumHead_run (v : Bool) (b1 b2 : Nat → Int) (n : Nat) (w : World) (hb1 : Byts 16 b1) (hb2 : Byts 16 b2) (h1 : validF v b1 = true) (h2 : validF v b2 = true) (hn : n ≤ 65535) : Calls Tryd.prog 42 #[.agg (SC 17 (adV v b1)), .agg (SC 17 (adV v b2)), .int .i64 (n : Int)] w fun e w' => e = .returned (.string (psH v b1 b2 n)) ∧ Below w.heap.size w w' := by
  cases v
  · exact sumHead_false b1 b2 n w hb1 hb2 h1 h2 hn
  · exact sumHead_true b1 b2 n w hb1 hb2 h1 h2 hn
set_option linter.unusedSimpArgs false in
set_option maxHeartbeats 4000000 in
theorem laid1_run (v : Bool) (b1 b2 : Nat → Int) (a s : ByteArray) (gs : Nat) (w : World) (hb1 : Byts 16 b1) (hb2 : Byts 16 b2) (h1 : validF v b1 = true) (h2 : validF v b2 = true) (ha : a.size = 2) (hs : s.size ≤ 65511) (hr : w.heap[gs]? = some (.cells #[.string s] 9 (0, 0))) : Calls Tryd.prog 33 #[.agg (SC 17 (adV v b1)), .agg (SC 17 (adV v b2)), .string a, .slice (some ⟨gs, 0, none⟩) 1 1] w fun e w' => e = .returned (.string (laidT v b1 b2 a s)) ∧ Below w.heap.size w w' := by
  generalize hRV : (.string (laidT v b1 b2 a s) : Value) = RV
  have HRV := Hid.mk hRV
  clear hRV
  have HA := Hid.mk ha
  have HS := Hid.mk hs
  have HROW := Hid.mk hr
  have HV := Hid.mk (And.intro h1 h2)
  clear ha hs hr h1 h2
  go_enter Tryd.func33, Tryd.ntmps33
  go_wp2_with (refine wl_boxO (V := adV v b1) rfl rfl isAddr rfl ?_; intro g1 w1 hg1 s1 hB1; refine Hid.out ?_)
  refine Hid.mk ?_
  have hz2 : w.heap.size ≤ g1 := by omega
  have hbt3 := hB1
  clear hB1 hg1
  go_wp2_with (refine wl_boxO (V := adV v b2) rfl rfl isAddr rfl ?_; intro g4 w4 hg4 s4 hB4; refine Hid.out ?_)
  refine Hid.mk ?_
  have hn5 : g1 ≠ g4 := by have := s1.lt; omega
  have hz6 : w.heap.size ≤ g4 := by have := hbt3.size; omega
  have s7 := s1.kept hB4
  clear s1
  have hbt8 := hbt3.trans (hB4.mono hbt3.size)
  clear hbt3
  clear hB4 hg4
  have HC9 : Hid (Calls Tryd.prog 40 #[.slice (some ⟨gs, 0, none⟩) 1 1, .string ByteArray.empty] w4 fun e w' => e = .returned (.string s) ∧ Below w4.heap.size w4 w') := Hid.mk (Join1 s w4 gs ((Below.block hbt8 gs (heap_lt HROW.out)).trans HROW.out) (by have := HA.out; have := HS.out; omega))
  go_wp2_with (refine wl_cal en_strings_Join HC9 rfl rfl (args2 rfl rfl) ?_; intro w10 hB10; refine Hid.out ?_)
  refine Hid.mk ?_
  clear HC9
  have s11 := s7.kept hB10
  clear s7
  have s12 := s4.kept hB10
  clear s4
  have hbt13 := hbt8.trans (hB10.mono hbt8.size)
  clear hbt8
  clear hB10
  go_wp2_with (refine wl_value rfl (look_st rfl isAddr s11 rfl) ?_; refine Hid.out ?_)
  refine Hid.mk ?_
  go_wp2_with (refine wl_value rfl (look_st rfl isAddr s12 rfl) ?_; refine Hid.out ?_)
  refine Hid.mk ?_
  go_wp2_with (refine wl_value rfl (exec_lenS rfl rfl) ?_; refine Hid.out ?_)
  refine Hid.mk ?_
  go_wp2_with (refine wl_value rfl (exec_addW (i := a.size) (m := 2) rfl rfl rfl rfl (by have := HA.out; have := HS.out; omega)) ?_; refine Hid.out ?_)
  refine Hid.mk ?_
  go_wp2_with (refine wl_value rfl (exec_lenS rfl rfl) ?_; refine Hid.out ?_)
  refine Hid.mk ?_
  go_wp2_with (refine wl_value rfl (exec_addW (i := a.size + 2) (m := s.size) rfl rfl rfl rfl (by have := HA.out; have := HS.out; omega)) ?_; refine Hid.out ?_)
  refine Hid.mk ?_
  have HZ14 := Hid.mk (psH_size HV.out.1 HV.out.2 ((a.size + 2) + s.size))
  have HC15 : Hid (Calls Tryd.prog 42 #[.agg (SC 17 (adV v b1)), .agg (SC 17 (adV v b2)), .int .i64 (((a.size + 2) + s.size : Nat) : Int)] w10 fun e w' => e = .returned (.string (psH v b1 b2 ((a.size + 2) + s.size))) ∧ Below w10.heap.size w10 w') := Hid.mk (sumHead_run v b1 b2 ((a.size + 2) + s.size) w10 hb1 hb2 HV.out.1 HV.out.2 (by have := HA.out; have := HS.out; have := HZ14.out; omega))
  go_wp2_with (refine wl_cal en_icmp_sumHead HC15 rfl rfl (args3 rfl rfl rfl) ?_; intro w16 hB16; refine Hid.out ?_)
  refine Hid.mk ?_
  clear HC15
  have s17 := s11.kept hB16
  clear s11
  have s18 := s12.kept hB16
  clear s12
  have hbt19 := hbt13.trans (hB16.mono hbt13.size)
  clear hbt13
  clear hB16
  go_wp2_with (refine wl_bsT3 (s := psH v b1 b2 ((a.size + 2) + s.size)) (t := a) (u := s) rfl rfl rfl rfl rfl ?_; intro g20 w20 hg20 hr20 hB20; refine Hid.out ?_)
  refine Hid.mk ?_
  clear hg20
  have s21 := s17.kept hB20
  clear s17
  have s22 := s18.kept hB20
  clear s18
  have hbt23 := hbt19.trans (hB20.mono hbt19.size)
  clear hbt19
  clear hB20
  have HZ24 := Hid.mk (sumT_b ((psH v b1 b2 ((a.size + 2) + s.size)) ++ a ++ s))
  have HC25 : Hid (Calls Tryd.prog 41 #[.slice (some ⟨g20, 0, none⟩) 3 3] w20 fun e w' => e = .returned (.int .i64 (sumT ((psH v b1 b2 ((a.size + 2) + s.size)) ++ a ++ s))) ∧ Below w20.heap.size w20 w') := Hid.mk (Sum3c (psH v b1 b2 ((a.size + 2) + s.size)) a s w20 g20 hr20 (by have := HA.out; have := HS.out; have := HZ14.out; have := HZ24.out; omega))
  go_wp2_with (refine wl_cal en_wire_Sum HC25 rfl rfl (args1 rfl) ?_; intro w26 hB26; refine Hid.out ?_)
  refine Hid.mk ?_
  clear HC25
  have s27 := s21.kept hB26
  clear s21
  have s28 := s22.kept hB26
  clear s22
  have hbt29 := hbt23.trans (hB26.mono hbt23.size)
  clear hbt23
  clear hB26
  obtain ⟨N30, hN30⟩ : ∃ n : Nat, n = (sumT ((psH v b1 b2 ((a.size + 2) + s.size)) ++ a ++ s)).toNat := ⟨_, rfl⟩
  have HN30 := Hid.mk hN30
  clear hN30
  go_wp2_with (refine wl_value rfl (cvN HN30 (exec_cvIU64 (m := sumT ((psH v b1 b2 ((a.size + 2) + s.size)) ++ a ++ s)) rfl rfl (by have := HA.out; have := HS.out; have := HZ14.out; have := HZ24.out; have := HN30.out; omega) (by have := HA.out; have := HS.out; have := HZ14.out; have := HZ24.out; have := HN30.out; omega))) ?_; refine Hid.out ?_)
  refine Hid.mk ?_
  have HZ31 := Hid.mk (putT_size N30 2)
  have HC32 : Hid (Calls Tryd.prog 32 #[.int .u64 ((N30 : Nat) : Int), .int .i64 2] w26 fun e w' => e = .returned (.string (putT N30 2)) ∧ Below w26.heap.size w26 w') := Hid.mk (Put_run N30 2 w26 (by decide) (by decide))
  go_wp2_with (refine wl_cal en_wire_Put HC32 rfl rfl (args2 rfl rfl) ?_; intro w33 hB33; refine Hid.out ?_)
  refine Hid.mk ?_
  clear HC32
  have s34 := s27.kept hB33
  clear s27
  have s35 := s28.kept hB33
  clear s28
  have hbt36 := hbt29.trans (hB33.mono hbt29.size)
  clear hbt29
  clear hB33
  go_wp2_with (refine wl_value rfl (exec_catS (s := a) (t := (putT N30 2)) rfl rfl rfl (by have := HA.out; have := HS.out; have := HZ14.out; have := HZ24.out; have := HN30.out; have := HZ31.out; omega)) ?_; refine Hid.out ?_)
  refine Hid.mk ?_
  have HZ37 := Hid.mk (ByteArray.size_append (a := a) (b := (putT N30 2)))
  go_wp2_with (refine wl_value rfl (exec_catS (s := (a ++ (putT N30 2))) (t := s) rfl rfl rfl (by have := HA.out; have := HS.out; have := HZ14.out; have := HZ24.out; have := HN30.out; have := HZ31.out; have := HZ37.out; omega)) ?_; refine Hid.out ?_)
  refine Hid.mk ?_
  have HZ38 := Hid.mk (ByteArray.size_append (a := (a ++ (putT N30 2))) (b := s))
  go_wp2_with fail
  go_ret
  exact ⟨Eq.trans (rfl : _ = Ending.returned (.string ((a ++ (putT N30 2)) ++ s))) (by have hsub := HN30.out; subst hsub; rw [← HRV.out] <;> rfl), hbt36⟩
set_option linter.unusedSimpArgs false in
set_option maxHeartbeats 4000000 in
theorem laid2_run (v : Bool) (b1 b2 : Nat → Int) (a s t : ByteArray) (gs : Nat) (w : World) (hb1 : Byts 16 b1) (hb2 : Byts 16 b2) (h1 : validF v b1 = true) (h2 : validF v b2 = true) (ha : a.size = 2) (hs : s.size + t.size ≤ 65511) (hr : w.heap[gs]? = some (.cells #[.string s, .string t] 9 (0, 0))) : Calls Tryd.prog 33 #[.agg (SC 17 (adV v b1)), .agg (SC 17 (adV v b2)), .string a, .slice (some ⟨gs, 0, none⟩) 2 2] w fun e w' => e = .returned (.string (laidT v b1 b2 a (s ++ t))) ∧ Below w.heap.size w w' := by
  generalize hRV : (.string (laidT v b1 b2 a (s ++ t)) : Value) = RV
  have HRV := Hid.mk hRV
  clear hRV
  have HA := Hid.mk ha
  have HS := Hid.mk hs
  have HROW := Hid.mk hr
  have HV := Hid.mk (And.intro h1 h2)
  clear ha hs hr h1 h2
  go_enter Tryd.func33, Tryd.ntmps33
  go_wp2_with (refine wl_boxO (V := adV v b1) rfl rfl isAddr rfl ?_; intro g1 w1 hg1 s1 hB1; refine Hid.out ?_)
  refine Hid.mk ?_
  have hz2 : w.heap.size ≤ g1 := by omega
  have hbt3 := hB1
  clear hB1 hg1
  go_wp2_with (refine wl_boxO (V := adV v b2) rfl rfl isAddr rfl ?_; intro g4 w4 hg4 s4 hB4; refine Hid.out ?_)
  refine Hid.mk ?_
  have hn5 : g1 ≠ g4 := by have := s1.lt; omega
  have hz6 : w.heap.size ≤ g4 := by have := hbt3.size; omega
  have s7 := s1.kept hB4
  clear s1
  have hbt8 := hbt3.trans (hB4.mono hbt3.size)
  clear hbt3
  clear hB4 hg4
  obtain ⟨N9, hN9⟩ : ∃ n : ByteArray, n = s ++ t := ⟨_, rfl⟩
  have HN9 := Hid.mk hN9
  clear hN9
  have HZJ := Hid.mk (show N9.size = s.size + t.size by rw [HN9.out]; exact ByteArray.size_append)
  have HC10 : Hid (Calls Tryd.prog 40 #[.slice (some ⟨gs, 0, none⟩) 2 2, .string ByteArray.empty] w4 fun e w' => e = .returned (.string N9) ∧ Below w4.heap.size w4 w') := Hid.mk (by rw [HN9.out]; exact Join2 s t w4 gs ((Below.block hbt8 gs (heap_lt HROW.out)).trans HROW.out) (by have := HA.out; have := HS.out; have := HZJ.out; omega))
  go_wp2_with (refine wl_cal en_strings_Join HC10 rfl rfl (args2 rfl rfl) ?_; intro w11 hB11; refine Hid.out ?_)
  refine Hid.mk ?_
  clear HC10
  have s12 := s7.kept hB11
  clear s7
  have s13 := s4.kept hB11
  clear s4
  have hbt14 := hbt8.trans (hB11.mono hbt8.size)
  clear hbt8
  clear hB11
  go_wp2_with (refine wl_value rfl (look_st rfl isAddr s12 rfl) ?_; refine Hid.out ?_)
  refine Hid.mk ?_
  go_wp2_with (refine wl_value rfl (look_st rfl isAddr s13 rfl) ?_; refine Hid.out ?_)
  refine Hid.mk ?_
  go_wp2_with (refine wl_value rfl (exec_lenS rfl rfl) ?_; refine Hid.out ?_)
  refine Hid.mk ?_
  go_wp2_with (refine wl_value rfl (exec_addW (i := a.size) (m := 2) rfl rfl rfl rfl (by have := HA.out; have := HS.out; have := HZJ.out; omega)) ?_; refine Hid.out ?_)
  refine Hid.mk ?_
  go_wp2_with (refine wl_value rfl (exec_lenS rfl rfl) ?_; refine Hid.out ?_)
  refine Hid.mk ?_
  go_wp2_with (refine wl_value rfl (exec_addW (i := a.size + 2) (m := N9.size) rfl rfl rfl rfl (by have := HA.out; have := HS.out; have := HZJ.out; omega)) ?_; refine Hid.out ?_)
  refine Hid.mk ?_
  have HZ15 := Hid.mk (psH_size HV.out.1 HV.out.2 ((a.size + 2) + N9.size))
  have HC16 : Hid (Calls Tryd.prog 42 #[.agg (SC 17 (adV v b1)), .agg (SC 17 (adV v b2)), .int .i64 (((a.size + 2) + N9.size : Nat) : Int)] w11 fun e w' => e = .returned (.string (psH v b1 b2 ((a.size + 2) + N9.size))) ∧ Below w11.heap.size w11 w') := Hid.mk (sumHead_run v b1 b2 ((a.size + 2) + N9.size) w11 hb1 hb2 HV.out.1 HV.out.2 (by have := HA.out; have := HS.out; have := HZJ.out; have := HZ15.out; omega))
  go_wp2_with (refine wl_cal en_icmp_sumHead HC16 rfl rfl (args3 rfl rfl rfl) ?_; intro w17 hB17; refine Hid.out ?_)
  refine Hid.mk ?_
  clear HC16
  have s18 := s12.kept hB17
  clear s12
  have s19 := s13.kept hB17
  clear s13
  have hbt20 := hbt14.trans (hB17.mono hbt14.size)
  clear hbt14
  clear hB17
  go_wp2_with (refine wl_bsT3 (s := psH v b1 b2 ((a.size + 2) + N9.size)) (t := a) (u := N9) rfl rfl rfl rfl rfl ?_; intro g21 w21 hg21 hr21 hB21; refine Hid.out ?_)
  refine Hid.mk ?_
  clear hg21
  have s22 := s18.kept hB21
  clear s18
  have s23 := s19.kept hB21
  clear s19
  have hbt24 := hbt20.trans (hB21.mono hbt20.size)
  clear hbt20
  clear hB21
  have HZ25 := Hid.mk (sumT_b ((psH v b1 b2 ((a.size + 2) + N9.size)) ++ a ++ N9))
  have HC26 : Hid (Calls Tryd.prog 41 #[.slice (some ⟨g21, 0, none⟩) 3 3] w21 fun e w' => e = .returned (.int .i64 (sumT ((psH v b1 b2 ((a.size + 2) + N9.size)) ++ a ++ N9))) ∧ Below w21.heap.size w21 w') := Hid.mk (Sum3c (psH v b1 b2 ((a.size + 2) + N9.size)) a N9 w21 g21 hr21 (by have := HA.out; have := HS.out; have := HZJ.out; have := HZ15.out; have := HZ25.out; omega))
  go_wp2_with (refine wl_cal en_wire_Sum HC26 rfl rfl (args1 rfl) ?_; intro w27 hB27; refine Hid.out ?_)
  refine Hid.mk ?_
  clear HC26
  have s28 := s22.kept hB27
  clear s22
  have s29 := s23.kept hB27
  clear s23
  have hbt30 := hbt24.trans (hB27.mono hbt24.size)
  clear hbt24
  clear hB27
  obtain ⟨N31, hN31⟩ : ∃ n : Nat, n = (sumT ((psH v b1 b2 ((a.size + 2) + N9.size)) ++ a ++ N9)).toNat := ⟨_, rfl⟩
  have HN31 := Hid.mk hN31
  clear hN31
  go_wp2_with (refine wl_value rfl (cvN HN31 (exec_cvIU64 (m := sumT ((psH v b1 b2 ((a.size + 2) + N9.size)) ++ a ++ N9)) rfl rfl (by have := HA.out; have := HS.out; have := HZJ.out; have := HZ15.out; have := HZ25.out; have := HN31.out; omega) (by have := HA.out; have := HS.out; have := HZJ.out; have := HZ15.out; have := HZ25.out; have := HN31.out; omega))) ?_; refine Hid.out ?_)
  refine Hid.mk ?_
  have HZ32 := Hid.mk (putT_size N31 2)
  have HC33 : Hid (Calls Tryd.prog 32 #[.int .u64 ((N31 : Nat) : Int), .int .i64 2] w27 fun e w' => e = .returned (.string (putT N31 2)) ∧ Below w27.heap.size w27 w') := Hid.mk (Put_run N31 2 w27 (by decide) (by decide))
  go_wp2_with (refine wl_cal en_wire_Put HC33 rfl rfl (args2 rfl rfl) ?_; intro w34 hB34; refine Hid.out ?_)
  refine Hid.mk ?_
  clear HC33
  have s35 := s28.kept hB34
  clear s28
  have s36 := s29.kept hB34
  clear s29
  have hbt37 := hbt30.trans (hB34.mono hbt30.size)
  clear hbt30
  clear hB34
  go_wp2_with (refine wl_value rfl (exec_catS (s := a) (t := (putT N31 2)) rfl rfl rfl (by have := HA.out; have := HS.out; have := HZJ.out; have := HZ15.out; have := HZ25.out; have := HN31.out; have := HZ32.out; omega)) ?_; refine Hid.out ?_)
  refine Hid.mk ?_
  have HZ38 := Hid.mk (ByteArray.size_append (a := a) (b := (putT N31 2)))
  go_wp2_with (refine wl_value rfl (exec_catS (s := (a ++ (putT N31 2))) (t := N9) rfl rfl rfl (by have := HA.out; have := HS.out; have := HZJ.out; have := HZ15.out; have := HZ25.out; have := HN31.out; have := HZ32.out; have := HZ38.out; omega)) ?_; refine Hid.out ?_)
  refine Hid.mk ?_
  have HZ39 := Hid.mk (ByteArray.size_append (a := (a ++ (putT N31 2))) (b := N9))
  go_wp2_with fail
  go_ret
  exact ⟨Eq.trans (rfl : _ = Ending.returned (.string ((a ++ (putT N31 2)) ++ N9))) (by have hsub := HN9.out; subst hsub; have hsub := HN31.out; subst hsub; rw [← HRV.out] <;> rfl), hbt37⟩
set_option linter.unusedSimpArgs false in
set_option maxHeartbeats 4000000 in
theorem iBuild_run (v1 : Bool) (b1 : Nat → Int) (v2 : Bool) (b2 : Nat → Int) (m : Ms) (w : World) (hb1 : Byts 16 b1) (hb2 : Byts 16 b2) (hr : m.rest < 4294967296) : Calls Tryd.prog 20 #[.agg (SC 17 (adV v1 b1)), .agg (SC 17 (adV v2 b2)), .agg (SC 4 (msV m))] w fun e w' => e = .returned (.tuple #[.string (mBldT v1 b1 v2 b2 m), .int .i64 (mBldE v1 b1 v2 b2 m)]) ∧ Below w.heap.size w w' := by
  generalize hRV : (.tuple #[.string (mBldT v1 b1 v2 b2 m), .int .i64 (mBldE v1 b1 v2 b2 m)] : Value) = RV
  have HRV := Hid.mk hRV
  clear hRV
  have HR := Hid.mk hr
  clear hr
  go_enter Tryd.func20, Tryd.ntmps20
  go_wp2_with (refine wl_boxO (V := adV v1 b1) rfl rfl isAddr rfl ?_; intro g1 w1 hg1 s1 hB1; refine Hid.out ?_)
  refine Hid.mk ?_
  have hz2 : w.heap.size ≤ g1 := by omega
  have hbt3 := hB1
  clear hB1 hg1
  go_wp2_with (refine wl_boxO (V := adV v2 b2) rfl rfl isAddr rfl ?_; intro g4 w4 hg4 s4 hB4; refine Hid.out ?_)
  refine Hid.mk ?_
  have hn5 : g1 ≠ g4 := by have := s1.lt; omega
  have hz6 : w.heap.size ≤ g4 := by have := hbt3.size; omega
  have s7 := s1.kept hB4
  clear s1
  have hbt8 := hbt3.trans (hB4.mono hbt3.size)
  clear hbt3
  clear hB4 hg4
  go_wp2_with (refine wl_boxO (V := msV m) rfl rfl isMs rfl ?_; intro g9 w9 hg9 s9 hB9; refine Hid.out ?_)
  refine Hid.mk ?_
  have hn10 : g1 ≠ g9 := by have := s7.lt; omega
  have hn11 : g4 ≠ g9 := by have := s4.lt; omega
  have hz12 : w.heap.size ≤ g9 := by have := hbt8.size; omega
  have s13 := s7.kept hB9
  clear s7
  have s14 := s4.kept hB9
  clear s4
  have hbt15 := hbt8.trans (hB9.mono hbt8.size)
  clear hbt8
  clear hB9 hg9
  go_wp2_with (refine wl_value rfl (look_st rfl isAddr s13 rfl) ?_; refine Hid.out ?_)
  refine Hid.mk ?_
  go_wp2_with (refine wl_value rfl (look_st rfl isAddr s14 rfl) ?_; refine Hid.out ?_)
  refine Hid.mk ?_
  rcases Bool.eq_false_or_eq_true (endsB v1 b1 v2 b2) with hb16 | hb16
  · have Hhb16 := Hid.mk hb16
    clear hb16
    have HC17 : Hid (Calls Tryd.prog 31 #[.agg (SC 17 (adV v1 b1)), .agg (SC 17 (adV v2 b2))] w9 fun e w' => e = .returned (.bool true) ∧ Below w9.heap.size w9 w') := Hid.mk (by have h := mayTalk_run v1 b1 v2 b2 w9; rw [Hhb16.out] at h; exact h)
    go_wp2_with (refine wl_cal en_icmp_mayTalk HC17 rfl rfl (args2 rfl rfl) ?_; intro w18 hB18; refine Hid.out ?_)
    refine Hid.mk ?_
    clear HC17
    have s19 := s13.kept hB18
    clear s13
    have s20 := s14.kept hB18
    clear s14
    have s21 := s9.kept hB18
    clear s9
    have hbt22 := hbt15.trans (hB18.mono hbt15.size)
    clear hbt15
    clear hB18
    go_wp2_with (refine wl_value rfl (exec_fms 0 (by decide) rfl rfl) ?_; refine Hid.out ?_)
    refine Hid.mk ?_
    go_wp2_with (refine wl_value rfl (exec_ld rfl rfl (ldI (SAt.at s21 0 (by decide)))) ?_; refine Hid.out ?_)
    refine Hid.mk ?_
    rcases Bool.eq_false_or_eq_true (upB m.typ 255) with hb23 | hb23
    · have Hhb23 := Hid.mk hb23
      clear hb23
      have HP24 := Hid.mk (upB_iff.1 Hhb23.out)
      have HC25 : Hid (Calls Tryd.prog 26 #[.int .i64 m.typ, .int .i64 255] w18 fun e w' => e = .returned (.bool true) ∧ Below w18.heap.size w18 w') := Hid.mk (by have h := iUpTo_run m.typ 255 w18; rw [Hhb23.out] at h; exact h)
      go_wp2_with (refine wl_cal en_icmp_upTo HC25 rfl rfl (args2 rfl rfl) ?_; intro w26 hB26; refine Hid.out ?_)
      refine Hid.mk ?_
      clear HC25
      have s27 := s19.kept hB26
      clear s19
      have s28 := s20.kept hB26
      clear s20
      have s29 := s21.kept hB26
      clear s21
      have hbt30 := hbt22.trans (hB26.mono hbt22.size)
      clear hbt22
      clear hB26
      go_wp2_with (refine wl_value rfl (exec_fms 1 (by decide) rfl rfl) ?_; refine Hid.out ?_)
      refine Hid.mk ?_
      go_wp2_with (refine wl_value rfl (exec_ld rfl rfl (ldI (SAt.at s29 1 (by decide)))) ?_; refine Hid.out ?_)
      refine Hid.mk ?_
      rcases Bool.eq_false_or_eq_true (upB m.code 255) with hb31 | hb31
      · have Hhb31 := Hid.mk hb31
        clear hb31
        have HP32 := Hid.mk (upB_iff.1 Hhb31.out)
        have HC33 : Hid (Calls Tryd.prog 26 #[.int .i64 m.code, .int .i64 255] w26 fun e w' => e = .returned (.bool true) ∧ Below w26.heap.size w26 w') := Hid.mk (by have h := iUpTo_run m.code 255 w26; rw [Hhb31.out] at h; exact h)
        go_wp2_with (refine wl_cal en_icmp_upTo HC33 rfl rfl (args2 rfl rfl) ?_; intro w34 hB34; refine Hid.out ?_)
        refine Hid.mk ?_
        clear HC33
        have s35 := s27.kept hB34
        clear s27
        have s36 := s28.kept hB34
        clear s28
        have s37 := s29.kept hB34
        clear s29
        have hbt38 := hbt30.trans (hB34.mono hbt30.size)
        clear hbt30
        clear hB34
        go_wp2_with (refine wl_value rfl (exec_fms 3 (by decide) rfl rfl) ?_; refine Hid.out ?_)
        refine Hid.mk ?_
        go_wp2_with (refine wl_value rfl (exec_ld rfl rfl (ldS (SAt.at s37 3 (by decide)))) ?_; refine Hid.out ?_)
        refine Hid.mk ?_
        go_wp2_with (refine wl_value rfl (exec_lenS rfl rfl) ?_; refine Hid.out ?_)
        refine Hid.mk ?_
        rcases Bool.eq_false_or_eq_true (decide (65507 < (m.body.size : Int))) with hb39 | hb39
        · have Hhb39 := Hid.mk hb39
          clear hb39
          have HDhb39 := Hid.mk (of_decide_eq_true Hhb39.out)
          go_wp2_with (refine wl_value rfl (kn_ (c := true) Hhb39 (cmp_gt (m := (m.body.size : Int)) (n := 65507) rfl rfl rfl)) ?_; refine Hid.out ?_)
          refine Hid.mk ?_
          go_wp2_with fail
          have hq : 65507 < m.body.size := (by have := HR.out; have := HP24.out; have := HP32.out; have := HDhb39.out; omega)
          have hE : mBldE v1 b1 v2 b2 m = 75 := by unfold mBldE msOk; simp [Hhb16.out, Hhb23.out, Hhb31.out, Hhb39.out, hq]
          have hT : mBldT v1 b1 v2 b2 m = ByteArray.empty := by unfold mBldT; rw [if_neg (by rw [hE]; decide)]
          refine bodyPost_ret (results_two rfl (by rfl) (by rfl)) rfl ?_
          exact ⟨Eq.trans (rfl : _ = Ending.returned (.tuple #[.string ByteArray.empty, .int .i64 75])) (by rw [← HRV.out, hE, hT]), hbt38⟩
        · have Hhb39 := Hid.mk hb39
          clear hb39
          have HDhb39 := Hid.mk (of_decide_eq_false Hhb39.out)
          go_wp2_with (refine wl_value rfl (kn_ (c := false) Hhb39 (cmp_gt (m := (m.body.size : Int)) (n := 65507) rfl rfl rfl)) ?_; refine Hid.out ?_)
          refine Hid.mk ?_
          obtain ⟨N40, hN40⟩ : ∃ n : Nat, n = m.typ.toNat := ⟨_, rfl⟩
          have HN40 := Hid.mk hN40
          clear hN40
          have HZ41 := Hid.mk (putT_size N40 1)
          obtain ⟨N42, hN42⟩ : ∃ n : Nat, n = m.code.toNat := ⟨_, rfl⟩
          have HN42 := Hid.mk hN42
          clear hN42
          go_upto_region 5 with fail
          refine wp_region_cut 7 rfl (by kernel_rfl) (any_steps (Below w34.heap.size w34) (fun v v' => Below v.heap.size v v') (fun j vv _ => vv = ([.pointer (some ⟨g9, 0, none⟩), .int .i64 m.typ, .int .u64 ((N40 : Nat) : Int), .string (putT N40 1), .pointer (some ⟨g9, 1, none⟩), .int .i64 m.code, .int .u64 ((N42 : Nat) : Int)] : List Value).getD j undef)
              [31, 32, 33, 34, 35, 36, 37]
              [(5, .pointer (some ⟨g9, 0, none⟩))]
              [[], [0], [1], [2], [], [4], [5]]
              (by kernel_rfl) ⟨rfl, trivial⟩ (Below.drew (Below.refl _ _)) (fun v v' h hb => h.trans (hb.mono h.size)) (fun _ _ _ _ h _ => h)
              ⟨
              (fun QQ aa ww hS fr kn => ⟨trivial, fun K hK => wp_value (exec_fms 0 (by decide) rfl fr.1) (hK _ _ rfl (Below.refl _ _))⟩),
              (fun QQ aa ww hS fr kn => ⟨trivial, fun K hK => wp_value (exec_ld rfl kn.1 (ldI (SAt.at (SAt.kept s37 hS) 0 (by decide)))) (hK _ _ rfl (Below.refl _ _))⟩),
              (fun QQ aa ww hS fr kn => ⟨trivial, fun K hK => wp_value (cvN HN40 (exec_cvIU64 (m := m.typ) rfl kn.1 (by have := HR.out; have := HP24.out; have := HP32.out; have := HDhb39.out; have := HN40.out; omega) (by have := HR.out; have := HP24.out; have := HP32.out; have := HDhb39.out; have := HN40.out; omega))) (hK _ _ rfl (Below.refl _ _))⟩),
              (fun QQ aa ww hS fr kn => ⟨trivial, fun K hK => stepc en_wire_Put rfl (args2 kn.1 rfl) (Put_run N40 1 ww (by decide) (by decide)) (fun w' hb => hK _ _ rfl hb)⟩),
              (fun QQ aa ww hS fr kn => ⟨trivial, fun K hK => wp_value (exec_fms 1 (by decide) rfl fr.1) (hK _ _ rfl (Below.refl _ _))⟩),
              (fun QQ aa ww hS fr kn => ⟨trivial, fun K hK => wp_value (exec_ld rfl kn.1 (ldI (SAt.at (SAt.kept s37 hS) 1 (by decide)))) (hK _ _ rfl (Below.refl _ _))⟩),
              (fun QQ aa ww hS fr kn => ⟨trivial, fun K hK => wp_value (cvN HN42 (exec_cvIU64 (m := m.code) rfl kn.1 (by have := HR.out; have := HP24.out; have := HP32.out; have := HDhb39.out; have := HN40.out; have := HZ41.out; have := HN42.out; omega) (by have := HR.out; have := HP24.out; have := HP32.out; have := HDhb39.out; have := HN40.out; have := HZ41.out; have := HN42.out; omega))) (hK _ _ rfl (Below.refl _ _))⟩),
              trivial⟩ ?_)
          intro vs w43 hB43 kn
          have e34 : vs 34 = .string (putT N40 1) := kn 3 (by decide)
          have e37 : vs 37 = .int .u64 ((N42 : Nat) : Int) := kn 6 (by decide)
          clear kn
          show wpList Tryd.prog _ _ (_ :: _ :: _ :: []) _ _
          simp only [putAll, Act.put, List.setIfInBounds_toArray, List.set_cons_zero, List.set_cons_succ, e34, e37]
          clear e34 e37
          have s44 := s35.kept hB43
          clear s35
          have s45 := s36.kept hB43
          clear s36
          have s46 := s37.kept hB43
          clear s37
          have hbt47 := hbt38.trans (hB43.mono hbt38.size)
          clear hbt38
          clear hB43
          have HZ48 := Hid.mk (putT_size N42 1)
          have HC49 : Hid (Calls Tryd.prog 32 #[.int .u64 ((N42 : Nat) : Int), .int .i64 1] w43 fun e w' => e = .returned (.string (putT N42 1)) ∧ Below w43.heap.size w43 w') := Hid.mk (Put_run N42 1 w43 (by decide) (by decide))
          go_wp2_with (refine wl_cal en_wire_Put HC49 rfl rfl (args2 rfl rfl) ?_; intro w50 hB50; refine Hid.out ?_)
          refine Hid.mk ?_
          clear HC49
          have s51 := s44.kept hB50
          clear s44
          have s52 := s45.kept hB50
          clear s45
          have s53 := s46.kept hB50
          clear s46
          have hbt54 := hbt47.trans (hB50.mono hbt47.size)
          clear hbt47
          clear hB50
          go_wp2_with (refine wl_value rfl (exec_catS (s := (putT N40 1)) (t := (putT N42 1)) rfl rfl rfl (by have := HR.out; have := HP24.out; have := HP32.out; have := HDhb39.out; have := HN40.out; have := HZ41.out; have := HN42.out; have := HZ48.out; omega)) ?_; refine Hid.out ?_)
          refine Hid.mk ?_
          have HZ55 := Hid.mk (ByteArray.size_append (a := (putT N40 1)) (b := (putT N42 1)))
          have HZ56 := Hid.mk (putT_size m.rest 4)
          have HV2 := Hid.mk (ends_iff.1 Hhb16.out)
          have HZ57 := Hid.mk (laid_size v1 b1 b2 ((putT N40 1) ++ (putT N42 1)) ((putT m.rest 4) ++ m.body))
          go_upto_region 6 with fail
          refine wp_region3 (Below w50.heap.size w50) w50.heap.size
              ([] : List (Nat × Cont))
              [kv (.agg (SC 17 (adV v1 b1))), kv (.agg (SC 17 (adV v2 b2))), kv (.string ((putT N40 1) ++ (putT N42 1))), kv (.pointer (some ⟨g9, 2, none⟩)), kv (.int .u32 ((m.rest : Nat) : Int)), kv (.int .u64 ((m.rest : Nat) : Int)), kv (.string (putT m.rest 4)), kv (.pointer (some ⟨g9, 3, none⟩)), kv (.string m.body), ks 2 #[.string (putT m.rest 4), .string m.body] 9, kv (.string (laidT v1 b1 b2 ((putT N40 1) ++ (putT N42 1)) ((putT m.rest 4) ++ m.body))), kv (.string (laidT v1 b1 b2 ((putT N40 1) ++ (putT N42 1)) ((putT m.rest 4) ++ m.body))), kv (.int .i64 0)]
              [.none, .none, .none, .none, .none, .none, .none, .none, .none, .none, .none, .none, .none]
              [some 40, some 41, some 42, some 43, some 44, some 45, some 46, some 47, some 48, some 49, some 50, some 6, some 7]
              [(3, .pointer (some ⟨g1, 0, none⟩)), (4, .pointer (some ⟨g4, 0, none⟩)), (8, .string ((putT N40 1) ++ (putT N42 1))), (5, .pointer (some ⟨g9, 0, none⟩))]
              [[], [], [], [], [.slot 3], [.slot 4], [.slot 5], [], [.slot 7], [.slot 6, .slot 8], [.slot 0, .slot 1, .slot 2, .slot 9, .cont 9 0], [.slot 10], []]
              [.slot 11, .slot 12] [40, 41, 42, 43, 44, 45, 46, 47, 48, 49, 50, 6, 7]
              rfl (by kernel_rfl) ⟨rfl, rfl, rfl, rfl, trivial⟩ ((Below.refl _ w50).drew) (Nat.le_refl _) trivial trivial (below_GcW (Nat.le_refl _))
              ⟨
              (fun QQ aa ww own hS hBg fr kn => .inl ⟨trivial, fun K hK => wp_value (look_st rfl isAddr (SAt.kept s51 hS) fr.1) (hK _ _ ⟨Touch.refl _ _, rfl⟩)⟩),
              (fun QQ aa ww own hS hBg fr kn => .inl ⟨trivial, fun K hK => wp_value (look_st rfl isAddr (SAt.kept s52 hS) fr.2.1) (hK _ _ ⟨Touch.refl _ _, rfl⟩)⟩),
              (fun QQ aa ww own hS hBg fr kn => .inl ⟨trivial, fun K hK => wp_value (exec_move rfl fr.2.2.1) (hK _ _ ⟨Touch.refl _ _, rfl⟩)⟩),
              (fun QQ aa ww own hS hBg fr kn => .inl ⟨trivial, fun K hK => wp_value (exec_fms 2 (by decide) rfl fr.2.2.2.1) (hK _ _ ⟨Touch.refl _ _, rfl⟩)⟩),
              (fun QQ aa ww own hS hBg fr kn => .inl ⟨trivial, fun K hK => wp_value (exec_ld rfl kn.1 (ld32 (SAt.at (SAt.kept s53 hS) 2 (by decide)))) (hK _ _ ⟨Touch.refl _ _, rfl⟩)⟩),
              (fun QQ aa ww own hS hBg fr kn => .inl ⟨trivial, fun K hK => wp_value (exec_cv32U (m := m.rest) rfl kn.1 (by have := HR.out; have := HP24.out; have := HP32.out; have := HDhb39.out; have := HN40.out; have := HZ41.out; have := HN42.out; have := HZ48.out; have := HZ55.out; omega)) (hK _ _ ⟨Touch.refl _ _, rfl⟩)⟩),
              (fun QQ aa ww own hS hBg fr kn => .inl ⟨trivial, fun K hK => stepc en_wire_Put rfl (args2 kn.1 rfl) (Put_run m.rest 4 ww (by decide) (by decide)) (fun w' hb => hK _ _ ⟨touch_below hb, rfl⟩)⟩),
              (fun QQ aa ww own hS hBg fr kn => .inl ⟨trivial, fun K hK => wp_value (exec_fms 3 (by decide) rfl fr.2.2.2.1) (hK _ _ ⟨Touch.refl _ _, rfl⟩)⟩),
              (fun QQ aa ww own hS hBg fr kn => .inl ⟨trivial, fun K hK => wp_value (exec_ld rfl kn.1 (ldS (SAt.at (SAt.kept s53 hS) 3 (by decide)))) (hK _ _ ⟨Touch.refl _ _, rfl⟩)⟩),
              (fun QQ aa ww own hS hBg fr kn => .inl ⟨trivial, fun K hK => act_bT2 rfl kn.1 kn.2.1 (fun w' hb hz hc => hK _ _ ⟨touch_below hb, _, hz, rfl, hc⟩)⟩),
              (fun QQ aa ww own hS hBg fr kn => .inl ⟨trivial, fun K hK => stepc en_icmp_laid rfl (args4 kn.1 kn.2.1 kn.2.2.1 kn.2.2.2.1.1) (by have h := laid2_run v1 b1 b2 ((putT N40 1) ++ (putT N42 1)) (putT m.rest 4) m.body (own 9) ww hb1 hb2 HV2.out.1 (by rw [HV2.out.2.2]; exact HV2.out.2.1) (by have := HR.out; have := HP24.out; have := HP32.out; have := HDhb39.out; have := HN40.out; have := HZ41.out; have := HN42.out; have := HZ48.out; have := HZ55.out; have := HZ56.out; omega) (by have := HR.out; have := HP24.out; have := HP32.out; have := HDhb39.out; have := HN40.out; have := HZ41.out; have := HN42.out; have := HZ48.out; have := HZ55.out; have := HZ56.out; omega) (obAt kn.2.2.2.2.1); rw [← HV2.out.2.2]; exact h) (fun w' hb => hK _ _ ⟨touch_below hb, rfl⟩)⟩),
              (fun QQ aa ww own hS hBg fr kn => .inl ⟨trivial, fun K hK => wp_value (exec_assign rfl kn.1) (hK _ _ ⟨Touch.refl _ _, rfl⟩)⟩),
              (fun QQ aa ww own hS hBg fr kn => .inl ⟨trivial, fun K hK => wp_value (exec_assign (v := .int .i64 0) rfl rfl) (hK _ _ ⟨Touch.refl _ _, rfl⟩)⟩),
              trivial⟩ ?_
          intro vs own w58 hB58 hsz kn inj
          have e6 : vs 6 = .string (laidT v1 b1 b2 ((putT N40 1) ++ (putT N42 1)) ((putT m.rest 4) ++ m.body)) := kn.1
          have e7 : vs 7 = .int .i64 0 := kn.2.1
          clear kn inj hsz
          simp only [putAll, Act.put, List.setIfInBounds_toArray, List.set_cons_zero, List.set_cons_succ, e6, e7]
          clear e6 e7
          have s59 := s51.kept hB58
          clear s51
          have s60 := s52.kept hB58
          clear s52
          have s61 := s53.kept hB58
          clear s53
          have hbt62 := hbt54.trans (hB58.mono hbt54.size)
          clear hbt54
          clear hB58
          go_wp2_with fail
          have hq : ¬ 65507 < m.body.size := (by have := HR.out; have := HP24.out; have := HP32.out; have := HDhb39.out; have := HN40.out; have := HZ41.out; have := HN42.out; have := HZ48.out; have := HZ55.out; have := HZ56.out; have := HZ57.out; omega)
          have hE : mBldE v1 b1 v2 b2 m = 0 := by unfold mBldE msOk; simp [Hhb16.out, Hhb23.out, Hhb31.out, Hhb39.out, hq]
          have hT : mBldT v1 b1 v2 b2 m = laidT v1 b1 b2 (msA m) (msR m) := by unfold mBldT; rw [if_pos hE]
          refine bodyPost_ret (results_two rfl (by rfl) (by rfl)) rfl ?_
          exact ⟨Eq.trans (rfl : _ = Ending.returned (.tuple #[.string (laidT v1 b1 b2 ((putT N40 1) ++ (putT N42 1)) ((putT m.rest 4) ++ m.body)), .int .i64 0])) (by have hsub := HN40.out; subst hsub; have hsub := HN42.out; subst hsub; rw [← HRV.out, hE, hT] <;> rfl), hbt62⟩
      · have Hhb31 := Hid.mk hb31
        clear hb31
        have HC63 : Hid (Calls Tryd.prog 26 #[.int .i64 m.code, .int .i64 255] w26 fun e w' => e = .returned (.bool false) ∧ Below w26.heap.size w26 w') := Hid.mk (by have h := iUpTo_run m.code 255 w26; rw [Hhb31.out] at h; exact h)
        go_wp2_with (refine wl_cal en_icmp_upTo HC63 rfl rfl (args2 rfl rfl) ?_; intro w64 hB64; refine Hid.out ?_)
        refine Hid.mk ?_
        clear HC63
        have s65 := s27.kept hB64
        clear s27
        have s66 := s28.kept hB64
        clear s28
        have s67 := s29.kept hB64
        clear s29
        have hbt68 := hbt30.trans (hB64.mono hbt30.size)
        clear hbt30
        clear hB64
        go_wp2_with fail
        have hE : mBldE v1 b1 v2 b2 m = 1 := by unfold mBldE msOk; simp [Hhb16.out, Hhb23.out, Hhb31.out]
        have hT : mBldT v1 b1 v2 b2 m = ByteArray.empty := by unfold mBldT; rw [if_neg (by rw [hE]; decide)]
        refine bodyPost_ret (results_two rfl (by rfl) (by rfl)) rfl ?_
        exact ⟨Eq.trans (rfl : _ = Ending.returned (.tuple #[.string ByteArray.empty, .int .i64 1])) (by rw [← HRV.out, hE, hT]), hbt68⟩
    · have Hhb23 := Hid.mk hb23
      clear hb23
      have HC69 : Hid (Calls Tryd.prog 26 #[.int .i64 m.typ, .int .i64 255] w18 fun e w' => e = .returned (.bool false) ∧ Below w18.heap.size w18 w') := Hid.mk (by have h := iUpTo_run m.typ 255 w18; rw [Hhb23.out] at h; exact h)
      go_wp2_with (refine wl_cal en_icmp_upTo HC69 rfl rfl (args2 rfl rfl) ?_; intro w70 hB70; refine Hid.out ?_)
      refine Hid.mk ?_
      clear HC69
      have s71 := s19.kept hB70
      clear s19
      have s72 := s20.kept hB70
      clear s20
      have s73 := s21.kept hB70
      clear s21
      have hbt74 := hbt22.trans (hB70.mono hbt22.size)
      clear hbt22
      clear hB70
      go_wp2_with fail
      have hE : mBldE v1 b1 v2 b2 m = 1 := by unfold mBldE msOk; simp [Hhb16.out, Hhb23.out]
      have hT : mBldT v1 b1 v2 b2 m = ByteArray.empty := by unfold mBldT; rw [if_neg (by rw [hE]; decide)]
      refine bodyPost_ret (results_two rfl (by rfl) (by rfl)) rfl ?_
      exact ⟨Eq.trans (rfl : _ = Ending.returned (.tuple #[.string ByteArray.empty, .int .i64 1])) (by rw [← HRV.out, hE, hT]), hbt74⟩
  · have Hhb16 := Hid.mk hb16
    clear hb16
    have HC75 : Hid (Calls Tryd.prog 31 #[.agg (SC 17 (adV v1 b1)), .agg (SC 17 (adV v2 b2))] w9 fun e w' => e = .returned (.bool false) ∧ Below w9.heap.size w9 w') := Hid.mk (by have h := mayTalk_run v1 b1 v2 b2 w9; rw [Hhb16.out] at h; exact h)
    go_wp2_with (refine wl_cal en_icmp_mayTalk HC75 rfl rfl (args2 rfl rfl) ?_; intro w76 hB76; refine Hid.out ?_)
    refine Hid.mk ?_
    clear HC75
    have s77 := s13.kept hB76
    clear s13
    have s78 := s14.kept hB76
    clear s14
    have s79 := s9.kept hB76
    clear s9
    have hbt80 := hbt15.trans (hB76.mono hbt15.size)
    clear hbt15
    clear hB76
    go_wp2_with fail
    have hE : mBldE v1 b1 v2 b2 m = 1 := by unfold mBldE msOk; simp [Hhb16.out]
    have hT : mBldT v1 b1 v2 b2 m = ByteArray.empty := by unfold mBldT; rw [if_neg (by rw [hE]; decide)]
    refine bodyPost_ret (results_two rfl (by rfl) (by rfl)) rfl ?_
    exact ⟨Eq.trans (rfl : _ = Ending.returned (.tuple #[.string ByteArray.empty, .int .i64 1])) (by rw [← HRV.out, hE, hT]), hbt80⟩
set_option linter.unusedSimpArgs false in
set_option maxHeartbeats 4000000 in
theorem iParse_run (v1 : Bool) (b1 : Nat → Int) (v2 : Bool) (b2 : Nat → Int) (b : ByteArray) (w : World) (hb1 : Byts 16 b1) (hb2 : Byts 16 b2) (hs : b.size < 4611686018427387904) : Calls Tryd.prog 35 #[.agg (SC 17 (adV v1 b1)), .agg (SC 17 (adV v2 b2)), .string b] w fun e w' => e = .returned (.tuple #[.agg (SC 4 (msV (mRdM v1 b1 v2 b2 b))), .int .i64 (mRdE v1 b1 v2 b2 b)]) ∧ Below w.heap.size w w' := by
  generalize hRV : (.tuple #[.agg (SC 4 (msV (mRdM v1 b1 v2 b2 b))), .int .i64 (mRdE v1 b1 v2 b2 b)] : Value) = RV
  have HRV := Hid.mk hRV
  clear hRV
  have HS := Hid.mk hs
  clear hs
  go_enter Tryd.func35, Tryd.ntmps35
  go_wp2_with (refine wl_boxO (V := adV v1 b1) rfl rfl isAddr rfl ?_; intro g1 w1 hg1 s1 hB1; refine Hid.out ?_)
  refine Hid.mk ?_
  have hz2 : w.heap.size ≤ g1 := by omega
  have hbt3 := hB1
  clear hB1 hg1
  go_wp2_with (refine wl_boxO (V := adV v2 b2) rfl rfl isAddr rfl ?_; intro g4 w4 hg4 s4 hB4; refine Hid.out ?_)
  refine Hid.mk ?_
  have hn5 : g1 ≠ g4 := by have := s1.lt; omega
  have hz6 : w.heap.size ≤ g4 := by have := hbt3.size; omega
  have s7 := s1.kept hB4
  clear s1
  have hbt8 := hbt3.trans (hB4.mono hbt3.size)
  clear hbt3
  clear hB4 hg4
  go_wp2_with (refine wl_alO (V := msV ms0) rfl rfl zeroMs ?_; intro g9 w9 hg9 s9 hB9; refine Hid.out ?_)
  refine Hid.mk ?_
  have hn10 : g1 ≠ g9 := by have := s7.lt; omega
  have hn11 : g4 ≠ g9 := by have := s4.lt; omega
  have hz12 : w.heap.size ≤ g9 := by have := hbt8.size; omega
  have s13 := s7.kept hB9
  clear s7
  have s14 := s4.kept hB9
  clear s4
  have hbt15 := hbt8.trans (hB9.mono hbt8.size)
  clear hbt8
  clear hB9 hg9
  go_wp2_with (refine wl_value rfl (look_st rfl isAddr s13 rfl) ?_; refine Hid.out ?_)
  refine Hid.mk ?_
  go_wp2_with (refine wl_value rfl (look_st rfl isAddr s14 rfl) ?_; refine Hid.out ?_)
  refine Hid.mk ?_
  rcases Bool.eq_false_or_eq_true (endsB v1 b1 v2 b2) with hb16 | hb16
  · have Hhb16 := Hid.mk hb16
    clear hb16
    have HC17 : Hid (Calls Tryd.prog 31 #[.agg (SC 17 (adV v1 b1)), .agg (SC 17 (adV v2 b2))] w9 fun e w' => e = .returned (.bool true) ∧ Below w9.heap.size w9 w') := Hid.mk (by have h := mayTalk_run v1 b1 v2 b2 w9; rw [Hhb16.out] at h; exact h)
    go_wp2_with (refine wl_cal en_icmp_mayTalk HC17 rfl rfl (args2 rfl rfl) ?_; intro w18 hB18; refine Hid.out ?_)
    refine Hid.mk ?_
    clear HC17
    have s19 := s13.kept hB18
    clear s13
    have s20 := s14.kept hB18
    clear s14
    have s21 := s9.kept hB18
    clear s9
    have hbt22 := hbt15.trans (hB18.mono hbt15.size)
    clear hbt15
    clear hB18
    go_wp2_with (refine wl_value rfl (exec_lenS rfl rfl) ?_; refine Hid.out ?_)
    refine Hid.mk ?_
    rcases Bool.eq_false_or_eq_true (decide ((b.size : Int) < 8)) with hb23 | hb23
    · have Hhb23 := Hid.mk hb23
      clear hb23
      have HDhb23 := Hid.mk (of_decide_eq_true Hhb23.out)
      go_wp2_with (refine wl_value rfl (kn_ (c := true) Hhb23 (cmp_lt (m := (b.size : Int)) (n := 8) rfl rfl rfl)) ?_; refine Hid.out ?_)
      refine Hid.mk ?_
      go_wp2_with (refine wl_value rfl (exec_bdMs0 rfl) ?_; refine Hid.out ?_)
      refine Hid.mk ?_
      go_wp2_with (refine st_stO (V := msV ms0) (g := g9) rfl rfl isMs (msV_one _) s21 rfl rfl ?_; intro w24 s24 ho24; refine Hid.out ?_)
      refine Hid.mk ?_
      clear s21
      have s25 := s19.only ho24 hn10
      clear s19
      have s26 := s20.only ho24 hn11
      clear s20
      have hbt27 := hbt22.trans (ho24.below hz12)
      clear hbt22
      clear ho24
      go_wp2_with fail
      have hE : mRdE v1 b1 v2 b2 b = 70 := by unfold mRdE; rw [if_pos Hhb16.out]; rw [if_pos (by have := HS.out; have := HDhb23.out; omega)]
      have hM : mRdM v1 b1 v2 b2 b = ms0 := by unfold mRdM; rw [if_neg (by rw [hE]; decide)]
      refine bodyPost_ret (res_ct rfl isMs s24 (by rfl) (by rfl)) rfl ?_
      exact ⟨Eq.trans (rfl : _ = Ending.returned (.tuple #[.agg (SC 4 (msV ms0)), .int .i64 70])) (by rw [← HRV.out, hE, hM]), hbt27⟩
    · have Hhb23 := Hid.mk hb23
      clear hb23
      have HDhb23 := Hid.mk (of_decide_eq_false Hhb23.out)
      go_wp2_with (refine wl_value rfl (kn_ (c := false) Hhb23 (cmp_lt (m := (b.size : Int)) (n := 8) rfl rfl rfl)) ?_; refine Hid.out ?_)
      refine Hid.mk ?_
      rcases Bool.eq_false_or_eq_true (decide (65515 < (b.size : Int))) with hb28 | hb28
      · have Hhb28 := Hid.mk hb28
        clear hb28
        have HDhb28 := Hid.mk (of_decide_eq_true Hhb28.out)
        go_upto_region 5 with fail
        refine wp_region3 (Below w18.heap.size w18) w18.heap.size
            ([] : List (Nat × Cont))
            [kv (.string b), kv (.int .i64 (b.size : Int)), kv (.bool true), kv (.bool true), kv (undef), kv (undef), kv (undef), kv (undef), kv (undef), kv (undef), kv (undef), kv (undef), kv (undef), kv (undef), kv (.bool true), kv (.bool true)]
            [.none, .none, .none, .none, .none, .none, .none, .none, .none, .none, .none, .none, .none, .none, .none, .none]
            [some 22, some 23, some 24, some 25, some 26, some 27, some 28, some 29, some 30, some 31, some 32, some 33, some 34, some 35, some 36, some 21]
            [(2, .string b), (3, .pointer (some ⟨g1, 0, none⟩)), (4, .pointer (some ⟨g4, 0, none⟩))]
            [[], [.slot 0], [.slot 1], [.slot 2], [.slot 3], [.slot 3], [.slot 3], [.slot 3], [.slot 3], [.slot 3], [.slot 3], [.slot 3], [.slot 3], [.slot 3], [.slot 3, .slot 13], [.slot 14]]
            [.slot 15] [22, 23, 24, 25, 26, 27, 28, 29, 30, 31, 32, 33, 34, 35, 36, 21]
            rfl (by kernel_rfl) ⟨rfl, rfl, rfl, trivial⟩ ((Below.refl _ w18).drew) (Nat.le_refl _) trivial trivial (below_GcW (Nat.le_refl _))
            ⟨
            (fun QQ aa ww own hS hBg fr kn => .inl ⟨trivial, fun K hK => wp_value (exec_move rfl fr.1) (hK _ _ ⟨Touch.refl _ _, rfl⟩)⟩),
            (fun QQ aa ww own hS hBg fr kn => .inl ⟨trivial, fun K hK => wp_value (exec_lenS rfl kn.1) (hK _ _ ⟨Touch.refl _ _, rfl⟩)⟩),
            (fun QQ aa ww own hS hBg fr kn => .inl ⟨trivial, fun K hK => wp_value (kn_ (c := true) Hhb28 (cmp_gt (m := (b.size : Int)) (n := 65515) rfl kn.1 rfl)) (hK _ _ ⟨Touch.refl _ _, rfl⟩)⟩),
            (fun QQ aa ww own hS hBg fr kn => .inl ⟨trivial, fun K hK => wp_value (exec_move rfl kn.1) (hK _ _ ⟨Touch.refl _ _, rfl⟩)⟩),
            (fun QQ aa ww own hS hBg fr kn => .inr ⟨.inl kn.1, Touch.refl _ _, rfl⟩),
            (fun QQ aa ww own hS hBg fr kn => .inr ⟨.inl kn.1, Touch.refl _ _, rfl⟩),
            (fun QQ aa ww own hS hBg fr kn => .inr ⟨.inl kn.1, Touch.refl _ _, rfl⟩),
            (fun QQ aa ww own hS hBg fr kn => .inr ⟨.inl kn.1, Touch.refl _ _, rfl⟩),
            (fun QQ aa ww own hS hBg fr kn => .inr ⟨.inl kn.1, Touch.refl _ _, rfl⟩),
            (fun QQ aa ww own hS hBg fr kn => .inr ⟨.inl kn.1, Touch.refl _ _, rfl⟩),
            (fun QQ aa ww own hS hBg fr kn => .inr ⟨.inl kn.1, Touch.refl _ _, rfl⟩),
            (fun QQ aa ww own hS hBg fr kn => .inr ⟨.inl kn.1, Touch.refl _ _, rfl⟩),
            (fun QQ aa ww own hS hBg fr kn => .inr ⟨.inl kn.1, Touch.refl _ _, rfl⟩),
            (fun QQ aa ww own hS hBg fr kn => .inr ⟨.inl kn.1, Touch.refl _ _, rfl⟩),
            (fun QQ aa ww own hS hBg fr kn => .inl ⟨trivial, fun K hK => wp_value (exec_pick (v := .bool true) rfl kn.1 rfl) (hK _ _ ⟨Touch.refl _ _, rfl⟩)⟩),
            (fun QQ aa ww own hS hBg fr kn => .inl ⟨trivial, fun K hK => wp_value (exec_assign rfl kn.1) (hK _ _ ⟨Touch.refl _ _, rfl⟩)⟩),
            trivial⟩ ?_
        intro vs own w29 hB29 hsz kn inj
        have e21 : vs 21 = .bool true := kn.1
        clear kn inj hsz
        simp only [putAll, Act.put, List.setIfInBounds_toArray, List.set_cons_zero, List.set_cons_succ, e21]
        clear e21
        have s30 := s19.kept hB29
        clear s19
        have s31 := s20.kept hB29
        clear s20
        have s32 := s21.kept hB29
        clear s21
        have hbt33 := hbt22.trans (hB29.mono hbt22.size)
        clear hbt22
        clear hB29
        go_wp2_with (refine wl_value rfl (exec_bdMs0 rfl) ?_; refine Hid.out ?_)
        refine Hid.mk ?_
        go_wp2_with (refine st_stO (V := msV ms0) (g := g9) rfl rfl isMs (msV_one _) s32 rfl rfl ?_; intro w34 s34 ho34; refine Hid.out ?_)
        refine Hid.mk ?_
        clear s32
        have s35 := s30.only ho34 hn10
        clear s30
        have s36 := s31.only ho34 hn11
        clear s31
        have hbt37 := hbt33.trans (ho34.below hz12)
        clear hbt33
        clear ho34
        go_wp2_with fail
        have hE : mRdE v1 b1 v2 b2 b = 73 := by unfold mRdE; rw [if_pos Hhb16.out]; rw [if_neg (by have := HS.out; have := HDhb23.out; have := HDhb28.out; omega), if_pos]; exact Or.inl (by have := HS.out; have := HDhb23.out; have := HDhb28.out; omega)
        have hM : mRdM v1 b1 v2 b2 b = ms0 := by unfold mRdM; rw [if_neg (by rw [hE]; decide)]
        refine bodyPost_ret (res_ct rfl isMs s34 (by rfl) (by rfl)) rfl ?_
        exact ⟨Eq.trans (rfl : _ = Ending.returned (.tuple #[.agg (SC 4 (msV ms0)), .int .i64 73])) (by rw [← HRV.out, hE, hM]), hbt37⟩
      · have Hhb28 := Hid.mk hb28
        clear hb28
        have HDhb28 := Hid.mk (of_decide_eq_false Hhb28.out)
        rcases Bool.eq_false_or_eq_true (decide (b = laidT v1 b1 b2 (b.extract 0 2) ((b.extract 4 b.size)))) with hb38 | hb38
        · have Hhb38 := Hid.mk hb38
          clear hb38
          have HDhb38 := Hid.mk (of_decide_eq_true Hhb38.out)
          have HZ39 := Hid.mk (cutP_size b 0 2 (by have := HS.out; have := HDhb23.out; have := HDhb28.out; have := HDhb38.out; omega))
          have HZ40 := Hid.mk (cutP_size b 4 b.size (by have := HS.out; have := HDhb23.out; have := HDhb28.out; have := HDhb38.out; have := HZ39.out; omega))
          have HV2 := Hid.mk (ends_iff.1 Hhb16.out)
          have HZ41 := Hid.mk (laid_size v1 b1 b2 (b.extract 0 2) ((b.extract 4 b.size)))
          go_upto_region 5 with fail
          refine wp_region3 (Below w18.heap.size w18) w18.heap.size
              ([] : List (Nat × Cont))
              [kv (.string b), kv (.int .i64 (b.size : Int)), kv (.bool false), kv (.bool false), kv (.string b), kv (.agg (SC 17 (adV v1 b1))), kv (.agg (SC 17 (adV v2 b2))), kv (.string b), kv (.string (b.extract 0 2)), kv (.string b), kv (.string (b.extract 4 b.size)), ks 1 #[.string (b.extract 4 b.size)] 9, kv (.string (laidT v1 b1 b2 (b.extract 0 2) ((b.extract 4 b.size)))), kv (.bool false), kv (.bool false), kv (.bool false)]
              [.none, .none, .none, .none, .none, .none, .none, .none, .none, .none, .none, .none, .none, .none, .none, .none]
              [some 22, some 23, some 24, some 25, some 26, some 27, some 28, some 29, some 30, some 31, some 32, some 33, some 34, some 35, some 36, some 21]
              [(2, .string b), (3, .pointer (some ⟨g1, 0, none⟩)), (4, .pointer (some ⟨g4, 0, none⟩))]
              [[], [.slot 0], [.slot 1], [.slot 2], [.slot 3], [.slot 3], [.slot 3], [.slot 3], [.slot 3, .slot 7], [.slot 3], [.slot 3, .slot 9], [.slot 3, .slot 10], [.slot 3, .slot 5, .slot 6, .slot 8, .slot 11, .cont 11 0], [.slot 3, .slot 4, .slot 12], [.slot 3, .slot 13], [.slot 14]]
              [.slot 15] [22, 23, 24, 25, 26, 27, 28, 29, 30, 31, 32, 33, 34, 35, 36, 21]
              rfl (by kernel_rfl) ⟨rfl, rfl, rfl, trivial⟩ ((Below.refl _ w18).drew) (Nat.le_refl _) trivial trivial (below_GcW (Nat.le_refl _))
              ⟨
              (fun QQ aa ww own hS hBg fr kn => .inl ⟨trivial, fun K hK => wp_value (exec_move rfl fr.1) (hK _ _ ⟨Touch.refl _ _, rfl⟩)⟩),
              (fun QQ aa ww own hS hBg fr kn => .inl ⟨trivial, fun K hK => wp_value (exec_lenS rfl kn.1) (hK _ _ ⟨Touch.refl _ _, rfl⟩)⟩),
              (fun QQ aa ww own hS hBg fr kn => .inl ⟨trivial, fun K hK => wp_value (kn_ (c := false) Hhb28 (cmp_gt (m := (b.size : Int)) (n := 65515) rfl kn.1 rfl)) (hK _ _ ⟨Touch.refl _ _, rfl⟩)⟩),
              (fun QQ aa ww own hS hBg fr kn => .inl ⟨trivial, fun K hK => wp_value (exec_move rfl kn.1) (hK _ _ ⟨Touch.refl _ _, rfl⟩)⟩),
              (fun QQ aa ww own hS hBg fr kn => .inl ⟨kn.1, fun K hK => wp_value (exec_move rfl fr.1) (hK _ _ ⟨Touch.refl _ _, rfl⟩)⟩),
              (fun QQ aa ww own hS hBg fr kn => .inl ⟨kn.1, fun K hK => wp_value (look_st rfl isAddr (SAt.kept s19 hS) fr.2.1) (hK _ _ ⟨Touch.refl _ _, rfl⟩)⟩),
              (fun QQ aa ww own hS hBg fr kn => .inl ⟨kn.1, fun K hK => wp_value (look_st rfl isAddr (SAt.kept s20 hS) fr.2.2.1) (hK _ _ ⟨Touch.refl _ _, rfl⟩)⟩),
              (fun QQ aa ww own hS hBg fr kn => .inl ⟨kn.1, fun K hK => wp_value (exec_move rfl fr.1) (hK _ _ ⟨Touch.refl _ _, rfl⟩)⟩),
              (fun QQ aa ww own hS hBg fr kn => .inl ⟨kn.1, fun K hK => wp_value (exec_slH (v := .string b) (u := .int .i64 (2 : Nat)) rfl kn.2.1 rfl (strH b 2 _ (by have := HS.out; have := HDhb23.out; have := HDhb28.out; have := HDhb38.out; omega))) (hK _ _ ⟨Touch.refl _ _, rfl⟩)⟩),
              (fun QQ aa ww own hS hBg fr kn => .inl ⟨kn.1, fun K hK => wp_value (exec_move rfl fr.1) (hK _ _ ⟨Touch.refl _ _, rfl⟩)⟩),
              (fun QQ aa ww own hS hBg fr kn => .inl ⟨kn.1, fun K hK => wp_value (exec_slL (v := .string b) (u := .int .i64 (4 : Nat)) rfl kn.2.1 rfl (strL b 4 _ (by have := HS.out; have := HDhb23.out; have := HDhb28.out; have := HDhb38.out; have := HZ39.out; omega))) (hK _ _ ⟨Touch.refl _ _, rfl⟩)⟩),
              (fun QQ aa ww own hS hBg fr kn => .inl ⟨kn.1, fun K hK => act_bT1 rfl kn.2.1 (fun w' hb hz hc => hK _ _ ⟨touch_below hb, _, hz, rfl, hc⟩)⟩),
              (fun QQ aa ww own hS hBg fr kn => .inl ⟨kn.1, fun K hK => stepc en_icmp_laid rfl (args4 kn.2.1 kn.2.2.1 kn.2.2.2.1 kn.2.2.2.2.1.1) (by have h := laid1_run v1 b1 b2 (b.extract 0 2) (b.extract 4 b.size) (own 11) ww hb1 hb2 HV2.out.1 (by rw [HV2.out.2.2]; exact HV2.out.2.1) (by have := HS.out; have := HDhb23.out; have := HDhb28.out; have := HDhb38.out; have := HZ39.out; have := HZ40.out; omega) (by have := HS.out; have := HDhb23.out; have := HDhb28.out; have := HDhb38.out; have := HZ39.out; have := HZ40.out; omega) (obAt kn.2.2.2.2.2.1); rw [← HV2.out.2.2]; exact h) (fun w' hb => hK _ _ ⟨touch_below hb, rfl⟩)⟩),
              (fun QQ aa ww own hS hBg fr kn => .inl ⟨kn.1, fun K hK => wp_value (kn_n (c := false) Hhb38 (cmp_neS (s := b) (t := laidT v1 b1 b2 (b.extract 0 2) ((b.extract 4 b.size))) rfl kn.2.1 kn.2.2.1)) (hK _ _ ⟨Touch.refl _ _, rfl⟩)⟩),
              (fun QQ aa ww own hS hBg fr kn => .inl ⟨trivial, fun K hK => wp_value (exec_pickF (v := .bool false) rfl kn.1 kn.2.1) (hK _ _ ⟨Touch.refl _ _, rfl⟩)⟩),
              (fun QQ aa ww own hS hBg fr kn => .inl ⟨trivial, fun K hK => wp_value (exec_assign rfl kn.1) (hK _ _ ⟨Touch.refl _ _, rfl⟩)⟩),
              trivial⟩ ?_
          intro vs own w42 hB42 hsz kn inj
          have e21 : vs 21 = .bool false := kn.1
          clear kn inj hsz
          simp only [putAll, Act.put, List.setIfInBounds_toArray, List.set_cons_zero, List.set_cons_succ, e21]
          clear e21
          have s43 := s19.kept hB42
          clear s19
          have s44 := s20.kept hB42
          clear s20
          have s45 := s21.kept hB42
          clear s21
          have hbt46 := hbt22.trans (hB42.mono hbt22.size)
          clear hbt22
          clear hB42
          have HZ47 : Hid (getN (txt b) 4 4 < 256 ^ 4) := Hid.mk (getN_lt (fun j => txt_b b j) 4 4)
          have HZ48 : Hid (getN (txt b) 4 4 < 4294967296) := Hid.mk HZ47.out
          have HC49 : Hid (Calls Tryd.prog 46 #[.string b, .int .i64 4, .int .i64 4] w42 fun e w' => e = .returned (.tuple #[.int .u64 ((getN (txt b) 4 4 : Nat) : Int), .bool true]) ∧ Below w42.heap.size w42 w') := Hid.mk ((Get_run b 4 4 w42 (by have := HS.out; have := HDhb23.out; have := HDhb28.out; have := HDhb38.out; have := HZ39.out; have := HZ40.out; have := HZ41.out; have := HZ48.out; omega) (by decide) (by decide) (by have := HS.out; have := HDhb23.out; have := HDhb28.out; have := HDhb38.out; have := HZ39.out; have := HZ40.out; have := HZ41.out; have := HZ48.out; omega)).mono (fun e w' ⟨h1, h2⟩ => ⟨h1, h2 ▸ Below.refl _ _⟩))
          go_wp2_with (refine wl_cal en_wire_Get HC49 rfl rfl (args3 rfl rfl rfl) ?_; intro w50 hB50; refine Hid.out ?_)
          refine Hid.mk ?_
          clear HC49
          have s51 := s43.kept hB50
          clear s43
          have s52 := s44.kept hB50
          clear s44
          have s53 := s45.kept hB50
          clear s45
          have hbt54 := hbt46.trans (hB50.mono hbt46.size)
          clear hbt46
          clear hB50
          have HU55 := Hid.mk (txt_b b 0)
          have HU56 := Hid.mk (txt_b b 1)
          have HZ57 := Hid.mk (cutP_size b 8 b.size (by have := HS.out; have := HDhb23.out; have := HDhb28.out; have := HDhb38.out; have := HZ39.out; have := HZ40.out; have := HZ41.out; have := HZ48.out; have := HU55.out; have := HU56.out; omega))
          go_upto_region 8 with fail
          refine wp_region_cut 10 rfl (by kernel_rfl) (any_steps (Below w50.heap.size w50) (fun v v' => Below v.heap.size v v') (fun j vv _ => vv = ([.string b, .int .u8 (txt b 0), .int .i64 (txt b 0), .string b, .int .u8 (txt b 1), .int .i64 (txt b 1), .int .u64 ((getN (txt b) 4 4 : Nat) : Int), .int .u32 ((getN (txt b) 4 4 : Nat) : Int), .string b, .string (b.extract 8 b.size)] : List Value).getD j undef)
              [43, 44, 45, 46, 47, 48, 49, 50, 51, 52]
              [(2, .string b), (8, .int .u64 ((getN (txt b) 4 4 : Nat) : Int))]
              [[], [0], [1], [], [3], [4], [], [6], [], [8]]
              (by kernel_rfl) ⟨rfl, rfl, trivial⟩ (Below.drew (Below.refl _ _)) (fun v v' h hb => h.trans (hb.mono h.size)) (fun _ _ _ _ h _ => h)
              ⟨
              (fun QQ aa ww hS fr kn => ⟨trivial, fun K hK => wp_value (exec_move rfl fr.1) (hK _ _ rfl (Below.refl _ _))⟩),
              (fun QQ aa ww hS fr kn => ⟨trivial, fun K hK => wp_value (exec_ixs (j := 0) rfl kn.1 rfl (by have := HS.out; have := HDhb23.out; have := HDhb28.out; have := HDhb38.out; have := HZ39.out; have := HZ40.out; have := HZ41.out; have := HZ48.out; omega)) (hK _ _ rfl (Below.refl _ _))⟩),
              (fun QQ aa ww hS fr kn => ⟨trivial, fun K hK => wp_value (exec_cvW (m := txt b 0) rfl kn.1 (by have := HS.out; have := HDhb23.out; have := HDhb28.out; have := HDhb38.out; have := HZ39.out; have := HZ40.out; have := HZ41.out; have := HZ48.out; have := HU55.out; omega) (by have := HS.out; have := HDhb23.out; have := HDhb28.out; have := HDhb38.out; have := HZ39.out; have := HZ40.out; have := HZ41.out; have := HZ48.out; have := HU55.out; omega)) (hK _ _ rfl (Below.refl _ _))⟩),
              (fun QQ aa ww hS fr kn => ⟨trivial, fun K hK => wp_value (exec_move rfl fr.1) (hK _ _ rfl (Below.refl _ _))⟩),
              (fun QQ aa ww hS fr kn => ⟨trivial, fun K hK => wp_value (exec_ixs (j := 1) rfl kn.1 rfl (by have := HS.out; have := HDhb23.out; have := HDhb28.out; have := HDhb38.out; have := HZ39.out; have := HZ40.out; have := HZ41.out; have := HZ48.out; have := HU55.out; omega)) (hK _ _ rfl (Below.refl _ _))⟩),
              (fun QQ aa ww hS fr kn => ⟨trivial, fun K hK => wp_value (exec_cvW (m := txt b 1) rfl kn.1 (by have := HS.out; have := HDhb23.out; have := HDhb28.out; have := HDhb38.out; have := HZ39.out; have := HZ40.out; have := HZ41.out; have := HZ48.out; have := HU55.out; have := HU56.out; omega) (by have := HS.out; have := HDhb23.out; have := HDhb28.out; have := HDhb38.out; have := HZ39.out; have := HZ40.out; have := HZ41.out; have := HZ48.out; have := HU55.out; have := HU56.out; omega)) (hK _ _ rfl (Below.refl _ _))⟩),
              (fun QQ aa ww hS fr kn => ⟨trivial, fun K hK => wp_value (exec_move rfl fr.2.1) (hK _ _ rfl (Below.refl _ _))⟩),
              (fun QQ aa ww hS fr kn => ⟨trivial, fun K hK => wp_value (exec_cvU32 (m := getN (txt b) 4 4) rfl kn.1 (by have := HS.out; have := HDhb23.out; have := HDhb28.out; have := HDhb38.out; have := HZ39.out; have := HZ40.out; have := HZ41.out; have := HZ48.out; have := HU55.out; have := HU56.out; omega)) (hK _ _ rfl (Below.refl _ _))⟩),
              (fun QQ aa ww hS fr kn => ⟨trivial, fun K hK => wp_value (exec_move rfl fr.1) (hK _ _ rfl (Below.refl _ _))⟩),
              (fun QQ aa ww hS fr kn => ⟨trivial, fun K hK => wp_value (exec_slL (v := .string b) (u := .int .i64 (8 : Nat)) rfl kn.1 rfl (strL b 8 _ (by have := HS.out; have := HDhb23.out; have := HDhb28.out; have := HDhb38.out; have := HZ39.out; have := HZ40.out; have := HZ41.out; have := HZ48.out; have := HU55.out; have := HU56.out; omega))) (hK _ _ rfl (Below.refl _ _))⟩),
              trivial⟩ ?_)
          intro vs w58 hB58 kn
          have e45 : vs 45 = .int .i64 (txt b 0) := kn 2 (by decide)
          have e48 : vs 48 = .int .i64 (txt b 1) := kn 5 (by decide)
          have e50 : vs 50 = .int .u32 ((getN (txt b) 4 4 : Nat) : Int) := kn 7 (by decide)
          have e52 : vs 52 = .string (b.extract 8 b.size) := kn 9 (by decide)
          clear kn
          show wpList Tryd.prog _ _ (_ :: _ :: _ :: []) _ _
          simp only [putAll, Act.put, List.setIfInBounds_toArray, List.set_cons_zero, List.set_cons_succ, e45, e48, e50, e52]
          clear e45 e48 e50 e52
          have s59 := s51.kept hB58
          clear s51
          have s60 := s52.kept hB58
          clear s52
          have s61 := s53.kept hB58
          clear s53
          have hbt62 := hbt54.trans (hB58.mono hbt54.size)
          clear hbt54
          clear hB58
          go_wp2_with (refine wl_value rfl (exec_bdMs ⟨txt b 0, txt b 1, getN (txt b) 4 4, b.extract 8 b.size⟩ rfl rfl rfl rfl rfl) ?_; refine Hid.out ?_)
          refine Hid.mk ?_
          go_wp2_with (refine st_stO (V := msV (⟨txt b 0, txt b 1, getN (txt b) 4 4, b.extract 8 b.size⟩)) (g := g9) rfl rfl isMs (msV_one _) s61 rfl rfl ?_; intro w63 s63 ho63; refine Hid.out ?_)
          refine Hid.mk ?_
          clear s61
          have s64 := s59.only ho63 hn10
          clear s59
          have s65 := s60.only ho63 hn11
          clear s60
          have hbt66 := hbt62.trans (ho63.below hz12)
          clear hbt62
          clear ho63
          go_wp2_with fail
          have hE : mRdE v1 b1 v2 b2 b = 0 := by unfold mRdE; rw [if_pos Hhb16.out, if_neg (by have := HS.out; have := HDhb23.out; have := HDhb28.out; have := HDhb38.out; have := HZ39.out; have := HZ40.out; have := HZ41.out; have := HZ48.out; have := HU55.out; have := HU56.out; have := HZ57.out; omega), if_neg (fun h => h.elim (fun h => by have := HS.out; have := HDhb23.out; have := HDhb28.out; have := HDhb38.out; have := HU55.out; have := HU56.out; omega) (fun h => h (of_decide_eq_true Hhb38.out)))]
          have hM : mRdM v1 b1 v2 b2 b = ⟨txt b 0, txt b 1, getN (txt b) 4 4, b.extract 8 b.size⟩ := by unfold mRdM; rw [if_pos hE]
          refine bodyPost_ret (res_ct rfl isMs s63 (by rfl) (by rfl)) rfl ?_
          exact ⟨Eq.trans (rfl : _ = Ending.returned (.tuple #[.agg (SC 4 (msV (⟨txt b 0, txt b 1, getN (txt b) 4 4, b.extract 8 b.size⟩))), .int .i64 0])) (by rw [← HRV.out, hE, hM]), hbt66⟩
        · have Hhb38 := Hid.mk hb38
          clear hb38
          have HDhb38 := Hid.mk (of_decide_eq_false Hhb38.out)
          have HZ67 := Hid.mk (cutP_size b 0 2 (by have := HS.out; have := HDhb23.out; have := HDhb28.out; have := HDhb38.out; omega))
          have HZ68 := Hid.mk (cutP_size b 4 b.size (by have := HS.out; have := HDhb23.out; have := HDhb28.out; have := HDhb38.out; have := HZ67.out; omega))
          have HV2 := Hid.mk (ends_iff.1 Hhb16.out)
          have HZ69 := Hid.mk (laid_size v1 b1 b2 (b.extract 0 2) ((b.extract 4 b.size)))
          go_upto_region 5 with fail
          refine wp_region3 (Below w18.heap.size w18) w18.heap.size
              ([] : List (Nat × Cont))
              [kv (.string b), kv (.int .i64 (b.size : Int)), kv (.bool false), kv (.bool false), kv (.string b), kv (.agg (SC 17 (adV v1 b1))), kv (.agg (SC 17 (adV v2 b2))), kv (.string b), kv (.string (b.extract 0 2)), kv (.string b), kv (.string (b.extract 4 b.size)), ks 1 #[.string (b.extract 4 b.size)] 9, kv (.string (laidT v1 b1 b2 (b.extract 0 2) ((b.extract 4 b.size)))), kv (.bool true), kv (.bool true), kv (.bool true)]
              [.none, .none, .none, .none, .none, .none, .none, .none, .none, .none, .none, .none, .none, .none, .none, .none]
              [some 22, some 23, some 24, some 25, some 26, some 27, some 28, some 29, some 30, some 31, some 32, some 33, some 34, some 35, some 36, some 21]
              [(2, .string b), (3, .pointer (some ⟨g1, 0, none⟩)), (4, .pointer (some ⟨g4, 0, none⟩))]
              [[], [.slot 0], [.slot 1], [.slot 2], [.slot 3], [.slot 3], [.slot 3], [.slot 3], [.slot 3, .slot 7], [.slot 3], [.slot 3, .slot 9], [.slot 3, .slot 10], [.slot 3, .slot 5, .slot 6, .slot 8, .slot 11, .cont 11 0], [.slot 3, .slot 4, .slot 12], [.slot 3, .slot 13], [.slot 14]]
              [.slot 15] [22, 23, 24, 25, 26, 27, 28, 29, 30, 31, 32, 33, 34, 35, 36, 21]
              rfl (by kernel_rfl) ⟨rfl, rfl, rfl, trivial⟩ ((Below.refl _ w18).drew) (Nat.le_refl _) trivial trivial (below_GcW (Nat.le_refl _))
              ⟨
              (fun QQ aa ww own hS hBg fr kn => .inl ⟨trivial, fun K hK => wp_value (exec_move rfl fr.1) (hK _ _ ⟨Touch.refl _ _, rfl⟩)⟩),
              (fun QQ aa ww own hS hBg fr kn => .inl ⟨trivial, fun K hK => wp_value (exec_lenS rfl kn.1) (hK _ _ ⟨Touch.refl _ _, rfl⟩)⟩),
              (fun QQ aa ww own hS hBg fr kn => .inl ⟨trivial, fun K hK => wp_value (kn_ (c := false) Hhb28 (cmp_gt (m := (b.size : Int)) (n := 65515) rfl kn.1 rfl)) (hK _ _ ⟨Touch.refl _ _, rfl⟩)⟩),
              (fun QQ aa ww own hS hBg fr kn => .inl ⟨trivial, fun K hK => wp_value (exec_move rfl kn.1) (hK _ _ ⟨Touch.refl _ _, rfl⟩)⟩),
              (fun QQ aa ww own hS hBg fr kn => .inl ⟨kn.1, fun K hK => wp_value (exec_move rfl fr.1) (hK _ _ ⟨Touch.refl _ _, rfl⟩)⟩),
              (fun QQ aa ww own hS hBg fr kn => .inl ⟨kn.1, fun K hK => wp_value (look_st rfl isAddr (SAt.kept s19 hS) fr.2.1) (hK _ _ ⟨Touch.refl _ _, rfl⟩)⟩),
              (fun QQ aa ww own hS hBg fr kn => .inl ⟨kn.1, fun K hK => wp_value (look_st rfl isAddr (SAt.kept s20 hS) fr.2.2.1) (hK _ _ ⟨Touch.refl _ _, rfl⟩)⟩),
              (fun QQ aa ww own hS hBg fr kn => .inl ⟨kn.1, fun K hK => wp_value (exec_move rfl fr.1) (hK _ _ ⟨Touch.refl _ _, rfl⟩)⟩),
              (fun QQ aa ww own hS hBg fr kn => .inl ⟨kn.1, fun K hK => wp_value (exec_slH (v := .string b) (u := .int .i64 (2 : Nat)) rfl kn.2.1 rfl (strH b 2 _ (by have := HS.out; have := HDhb23.out; have := HDhb28.out; have := HDhb38.out; omega))) (hK _ _ ⟨Touch.refl _ _, rfl⟩)⟩),
              (fun QQ aa ww own hS hBg fr kn => .inl ⟨kn.1, fun K hK => wp_value (exec_move rfl fr.1) (hK _ _ ⟨Touch.refl _ _, rfl⟩)⟩),
              (fun QQ aa ww own hS hBg fr kn => .inl ⟨kn.1, fun K hK => wp_value (exec_slL (v := .string b) (u := .int .i64 (4 : Nat)) rfl kn.2.1 rfl (strL b 4 _ (by have := HS.out; have := HDhb23.out; have := HDhb28.out; have := HDhb38.out; have := HZ67.out; omega))) (hK _ _ ⟨Touch.refl _ _, rfl⟩)⟩),
              (fun QQ aa ww own hS hBg fr kn => .inl ⟨kn.1, fun K hK => act_bT1 rfl kn.2.1 (fun w' hb hz hc => hK _ _ ⟨touch_below hb, _, hz, rfl, hc⟩)⟩),
              (fun QQ aa ww own hS hBg fr kn => .inl ⟨kn.1, fun K hK => stepc en_icmp_laid rfl (args4 kn.2.1 kn.2.2.1 kn.2.2.2.1 kn.2.2.2.2.1.1) (by have h := laid1_run v1 b1 b2 (b.extract 0 2) (b.extract 4 b.size) (own 11) ww hb1 hb2 HV2.out.1 (by rw [HV2.out.2.2]; exact HV2.out.2.1) (by have := HS.out; have := HDhb23.out; have := HDhb28.out; have := HDhb38.out; have := HZ67.out; have := HZ68.out; omega) (by have := HS.out; have := HDhb23.out; have := HDhb28.out; have := HDhb38.out; have := HZ67.out; have := HZ68.out; omega) (obAt kn.2.2.2.2.2.1); rw [← HV2.out.2.2]; exact h) (fun w' hb => hK _ _ ⟨touch_below hb, rfl⟩)⟩),
              (fun QQ aa ww own hS hBg fr kn => .inl ⟨kn.1, fun K hK => wp_value (kn_n (c := true) Hhb38 (cmp_neS (s := b) (t := laidT v1 b1 b2 (b.extract 0 2) ((b.extract 4 b.size))) rfl kn.2.1 kn.2.2.1)) (hK _ _ ⟨Touch.refl _ _, rfl⟩)⟩),
              (fun QQ aa ww own hS hBg fr kn => .inl ⟨trivial, fun K hK => wp_value (exec_pickF (v := .bool true) rfl kn.1 kn.2.1) (hK _ _ ⟨Touch.refl _ _, rfl⟩)⟩),
              (fun QQ aa ww own hS hBg fr kn => .inl ⟨trivial, fun K hK => wp_value (exec_assign rfl kn.1) (hK _ _ ⟨Touch.refl _ _, rfl⟩)⟩),
              trivial⟩ ?_
          intro vs own w70 hB70 hsz kn inj
          have e21 : vs 21 = .bool true := kn.1
          clear kn inj hsz
          simp only [putAll, Act.put, List.setIfInBounds_toArray, List.set_cons_zero, List.set_cons_succ, e21]
          clear e21
          have s71 := s19.kept hB70
          clear s19
          have s72 := s20.kept hB70
          clear s20
          have s73 := s21.kept hB70
          clear s21
          have hbt74 := hbt22.trans (hB70.mono hbt22.size)
          clear hbt22
          clear hB70
          go_wp2_with (refine wl_value rfl (exec_bdMs0 rfl) ?_; refine Hid.out ?_)
          refine Hid.mk ?_
          go_wp2_with (refine st_stO (V := msV ms0) (g := g9) rfl rfl isMs (msV_one _) s73 rfl rfl ?_; intro w75 s75 ho75; refine Hid.out ?_)
          refine Hid.mk ?_
          clear s73
          have s76 := s71.only ho75 hn10
          clear s71
          have s77 := s72.only ho75 hn11
          clear s72
          have hbt78 := hbt74.trans (ho75.below hz12)
          clear hbt74
          clear ho75
          go_wp2_with fail
          have hE : mRdE v1 b1 v2 b2 b = 73 := by unfold mRdE; rw [if_pos Hhb16.out]; rw [if_neg (by have := HS.out; have := HDhb23.out; have := HDhb28.out; have := HDhb38.out; have := HZ67.out; have := HZ68.out; have := HZ69.out; omega), if_pos]; exact Or.inr (of_decide_eq_false Hhb38.out)
          have hM : mRdM v1 b1 v2 b2 b = ms0 := by unfold mRdM; rw [if_neg (by rw [hE]; decide)]
          refine bodyPost_ret (res_ct rfl isMs s75 (by rfl) (by rfl)) rfl ?_
          exact ⟨Eq.trans (rfl : _ = Ending.returned (.tuple #[.agg (SC 4 (msV ms0)), .int .i64 73])) (by rw [← HRV.out, hE, hM]), hbt78⟩
  · have Hhb16 := Hid.mk hb16
    clear hb16
    have HC79 : Hid (Calls Tryd.prog 31 #[.agg (SC 17 (adV v1 b1)), .agg (SC 17 (adV v2 b2))] w9 fun e w' => e = .returned (.bool false) ∧ Below w9.heap.size w9 w') := Hid.mk (by have h := mayTalk_run v1 b1 v2 b2 w9; rw [Hhb16.out] at h; exact h)
    go_wp2_with (refine wl_cal en_icmp_mayTalk HC79 rfl rfl (args2 rfl rfl) ?_; intro w80 hB80; refine Hid.out ?_)
    refine Hid.mk ?_
    clear HC79
    have s81 := s13.kept hB80
    clear s13
    have s82 := s14.kept hB80
    clear s14
    have s83 := s9.kept hB80
    clear s9
    have hbt84 := hbt15.trans (hB80.mono hbt15.size)
    clear hbt15
    clear hB80
    go_wp2_with (refine wl_value rfl (exec_bdMs0 rfl) ?_; refine Hid.out ?_)
    refine Hid.mk ?_
    go_wp2_with (refine st_stO (V := msV ms0) (g := g9) rfl rfl isMs (msV_one _) s83 rfl rfl ?_; intro w85 s85 ho85; refine Hid.out ?_)
    refine Hid.mk ?_
    clear s83
    have s86 := s81.only ho85 hn10
    clear s81
    have s87 := s82.only ho85 hn11
    clear s82
    have hbt88 := hbt84.trans (ho85.below hz12)
    clear hbt84
    clear ho85
    go_wp2_with fail
    have hE : mRdE v1 b1 v2 b2 b = 1 := by unfold mRdE; simp [Hhb16.out]
    have hM : mRdM v1 b1 v2 b2 b = ms0 := by unfold mRdM; rw [if_neg (by rw [hE]; decide)]
    refine bodyPost_ret (res_ct rfl isMs s85 (by rfl) (by rfl)) rfl ?_
    exact ⟨Eq.trans (rfl : _ = Ending.returned (.tuple #[.agg (SC 4 (msV ms0)), .int .i64 1])) (by rw [← HRV.out, hE, hM]), hbt88⟩
end Go.Proofs.YtojekoakgpkkdabDoor

