/-
  Own text. A whole packet's pieces, cut or in one: what Take tells of them.
-/
import Derived.Test.YthnlfjkpiohooaaGR
import Derived.Test.YthnlfjkpiohooaaGQ
import Derived.Test.YthnlfjkpiohooaaGP
namespace Go.Proofs.Ythnlfjkpiohooaa
open Go.RowKit Go.Proofs
set_option maxRecDepth 100000
/-- The pieces of a whole packet: those it was cut into, or itself. -/
def Whl (P : Pk) (pc : Nat → Pk) (m : Nat) : Prop := (∃ id R, CutOf P id R m ∧ 2 ≤ m ∧ pc = pcs P id R) ∨ (m = 1 ∧ pc = (fun _ => P) ∧ rgtP P = true ∧ fitP P = true ∧ P.off = 0 ∧ P.more = false ∧ P.cut = false)
theorem bare_self {P : Pk} (hr : rgtP P = true) (h1 : P.off = 0) (h2 : P.more = false) (h3 : P.cut = false) : bareP P = P := by
  obtain ⟨sv, sb, dv, db, pr, ho, cl, i, o, mo, st, op, fl, ex, cu, pa⟩ := P
  have h1 : o = 0 := h1
  have h2 : mo = false := h2
  have h3 : cu = false := h3
  subst h1 h2 h3
  cases sv with
  | false => rfl
  | true =>
    have h4 : i = 0 := by
      obtain ⟨_, _, _, _, _, _, _, _, h9⟩ := rgtP_iff.1 hr
      obtain ⟨_, _, _, _, _, _, h5⟩ := rgt6_iff.1 (show rgt6 _ = true from h9)
      rcases h5 with h5 | h5
      · cases h5
      · exact h5.1
    subst h4
    rfl
section
variable {P : Pk} {pc : Nat → Pk} {m : Nat}
theorem Whl.m1 (h : Whl P pc m) : 1 ≤ m := by
  rcases h with ⟨_, _, _, h, _⟩ | ⟨h, _⟩ <;> omega
theorem Whl.exts (h : Whl P pc m) (k : Nat) : (pc k).exts = P.exts := by
  rcases h with ⟨id, R, _, _, rfl⟩ | ⟨_, rfl, _⟩
  · exact pcs_exts P id R k
  · rfl
theorem Whl.rgt (h : Whl P pc m) {k : Nat} (hk : k < m) : rgtP (pc k) = true := by
  rcases h with ⟨id, R, h, _, rfl⟩ | ⟨_, rfl, h, _⟩
  · exact h.rgt hk
  · exact h
theorem fam_te {t t' e e' : Int} {P Q : Pk} (h : e ≠ e') : famOf t e P ≠ famOf t' e' Q := by
  intro x
  unfold famOf at x
  obtain ⟨_, h2, _⟩ := famL_inj.1 x
  exact h h2
theorem Whl.fam (h : Whl P pc m) (t e : Int) (k : Nat) : famOf t e (pc k) = famOf t e (pc 0) := by
  rcases h with ⟨id, R, _, _, rfl⟩ | ⟨_, rfl, _⟩
  · rw [fam_pcs, fam_pcs]
  · rfl
theorem Whl.small (h : Whl P pc m) {k : Nat} (hk : k < m) : (pc k).exts.length < 4611686018427387904 ∧ (∀ x ∈ (pc k).exts, x.body.size ≤ 140737488355328) ∧ (pc k).pay.size ≤ 140737488355328 := by
  rcases h with ⟨id, R, h, _, rfl⟩ | ⟨_, rfl, h, hf, _⟩
  · exact h.small hk
  · have h1 := fit_pay hf
    exact ⟨(rgt_len h).1, rgt_bod h, by show P.pay.size ≤ _; omega⟩
theorem Whl.step (h : Whl P pc m) (hm64 : m ≤ 64) {b : Bx} {t n t0 e0 : Int} {G : Fam} {y : List Pk} {ks : List Nat} {k : Nat} (hb : TwoAt b t (famOf t0 e0 (pc 0)) G (ks.map pc) y) (hfg : famOf t0 e0 (pc 0) ≠ G) (hn : t ≤ n) (h3 : n < 30000) (hnd : ks.Nodup) (hks : ∀ k ∈ ks, k < m) (hk : k < m) (hnk : k ∉ ks) :
    (takeF b n (famOf t0 e0 (pc 0)) (pc k)).1 = (if ks.length + 1 = m then some P else none) ∧ TwoAt (takeF b n (famOf t0 e0 (pc 0)) (pc k)).2 n (famOf t0 e0 (pc 0)) G (if ks.length + 1 = m then [] else (ks ++ [k]).map pc) y := by
  rcases h with ⟨id, R, h, h2, rfl⟩ | ⟨h1, rfl, hr, hf, ho, hmo, hc⟩
  · exact h.step h2 hm64 hb hfg hn h3 hnd hks hk hnk
  · subst h1
    have e : ks = [] := by
      cases ks with
      | nil => rfl
      | cons a l =>
        have h5 := hks a (by simp)
        obtain rfl : a = k := by omega
        exact absurd (List.mem_cons_self) hnk
    subst e
    have hw : wholeQ P = true := by unfold wholeQ; rw [ho, hmo]; rfl
    have e2 : takeF b n (famOf t0 e0 P) P = (some (bareP P), lateF b n) := by
      unfold takeF
      rw [if_neg (by rw [hr]; decide), if_pos hw]
    show (takeF b n (famOf t0 e0 P) P).1 = _ ∧ TwoAt (takeF b n (famOf t0 e0 P) P).2 n (famOf t0 e0 P) G _ y
    rw [e2, bare_self hr ho hmo hc]
    exact ⟨rfl, (hb.late hn h3).1⟩
theorem Whl.again (h : Whl P pc m) {b : Bx} {t n t0 e0 : Int} {G : Fam} {y : List Pk} {ks : List Nat} {k : Nat} (hb : TwoAt b t (famOf t0 e0 (pc 0)) G (ks.map pc) y) (hfg : famOf t0 e0 (pc 0) ≠ G) (hn : t ≤ n) (h3 : n < 30000) (hk : k < m) (hkk : k ∈ ks) (hl : ks.length < m) :
    (takeF b n (famOf t0 e0 (pc 0)) (pc k)).1 = none ∧ TwoAt (takeF b n (famOf t0 e0 (pc 0)) (pc k)).2 n (famOf t0 e0 (pc 0)) G (ks.map pc) y := by
  rcases h with ⟨id, R, h, h2, rfl⟩ | ⟨h1, _⟩
  · exact h.again h2 hb hfg hn h3 hk hkk
  · have := List.length_pos_of_mem hkk
    omega
end
section
variable {P : Pk} {pc : Nat → Pk} {m : Nat} {u : World} {N : Nat → Prop} {B g : Nat} {mv v : Value} {b : Bx} {begun now t t0 e0 : Int} {cs : List Ch} {G : Fam} {y : List Pk} {ks : List Nat} {k : Nat}
theorem stepW_run (h : Whl P pc m) (hm64 : m ≤ 64) (hb : TwoAt b t (famOf t0 e0 (pc 0)) G (ks.map pc) y) (hfg : famOf t0 e0 (pc 0) ≠ G) (hn : t ≤ now) (h3 : now < 30000) (hnd : ks.Nodup) (hks : ∀ k ∈ ks, k < m) (hk : k < m) (hnk : k ∉ ks) (hB : BoxAt u B N g mv b begun cs) (hN : ∀ k, N k → k < u.heap.size) (hx : ExAt u v P.exts) (hv : ∀ q, exK v = some q → N q) (hbg : begun + 1 < 4611686018427387904) :
    Calls Try.prog 17 #[.pointer (some ⟨g, 0, none⟩), .int .i64 now, .agg (SC 2 (tgV t0 e0)), .agg (SC 46 (pkV (pc k) v))] u fun e w' => ∃ Q v2 mv' bg' cs' b', e = .returned (.tuple #[.agg (SC 46 (pkV Q v2)), .bool (decide (ks.length + 1 = m))]) ∧ v2.oneCell' = true ∧ (ks.length + 1 = m → Q = P ∧ ExAt w' v2 P.exts ∧ ∀ k, exK v2 = some k → ¬ N k) ∧ BoxAt w' B N g mv' b' bg' cs' ∧ TwoAt b' now (famOf t0 e0 (pc 0)) G (if ks.length + 1 = m then [] else (ks ++ [k]).map pc) y ∧ bg' ≤ begun + 1 ∧ Spares N u w' := by
  have hst := h.step hm64 hb hfg hn h3 hnd hks hk hnk
  have hf := (h.fam t0 e0 k).symm
  have hs := h.small hk
  rw [hf] at hst ⊢
  refine (TakeN_run (t := t0) (e0 := e0) (P := pc k) hB hN (by rw [h.exts]; exact hx) hv hs.1 hs.2.1 hs.2.2 hbg hst.1 rfl).mono ?_
  rintro e w' ⟨Q, v2, mv', bg', cs', rfl, h1, h2, h4, h5, h6⟩
  have hd : (if ks.length + 1 = m then some P else none).isSome = decide (ks.length + 1 = m) := by split <;> rename_i hh <;> simp [hh]
  refine ⟨Q, v2, mv', bg', cs', _, by rw [hd], h1, fun hl => ?_, h4, hst.2, h5, h6⟩
  rcases h2 with ⟨e1, e2⟩ | ⟨e1, _⟩
  · rw [if_pos hl] at e1
    injection e1 with e1
    subst e1
    exact ⟨rfl, e2⟩
  · rw [if_pos hl] at e1
    cases e1
theorem againW_run (h : Whl P pc m) (hb : TwoAt b t (famOf t0 e0 (pc 0)) G (ks.map pc) y) (hfg : famOf t0 e0 (pc 0) ≠ G) (hn : t ≤ now) (h3 : now < 30000) (hk : k < m) (hkk : k ∈ ks) (hl : ks.length < m) (hB : BoxAt u B N g mv b begun cs) (hN : ∀ k, N k → k < u.heap.size) (hx : ExAt u v P.exts) (hv : ∀ q, exK v = some q → N q) (hbg : begun + 1 < 4611686018427387904) :
    Calls Try.prog 17 #[.pointer (some ⟨g, 0, none⟩), .int .i64 now, .agg (SC 2 (tgV t0 e0)), .agg (SC 46 (pkV (pc k) v))] u fun e w' => ∃ mv' bg' cs' b', e = .returned (.tuple #[.agg (SC 46 (pkV zeroP (.slice none 0 0))), .bool false]) ∧ BoxAt w' B N g mv' b' bg' cs' ∧ TwoAt b' now (famOf t0 e0 (pc 0)) G (ks.map pc) y ∧ bg' ≤ begun + 1 ∧ Spares N u w' := by
  have hst := h.again hb hfg hn h3 hk hkk hl
  have hf := (h.fam t0 e0 k).symm
  have hs := h.small hk
  rw [hf] at hst ⊢
  refine (TakeN_run (t := t0) (e0 := e0) (P := pc k) hB hN (by rw [h.exts]; exact hx) hv hs.1 hs.2.1 hs.2.2 hbg hst.1 rfl).mono ?_
  rintro e w' ⟨Q, v2, mv', bg', cs', rfl, h1, h2, h4, h5, h6⟩
  rcases h2 with ⟨e1, _⟩ | ⟨_, rfl, rfl⟩
  · cases e1
  · exact ⟨mv', bg', cs', _, rfl, h4, hst.2, h5, h6⟩
/-- The first piece, of another tag, once or again. -/
theorem otherW_run (h : Whl P pc m) (hm2 : 2 ≤ m) (hm64 : m ≤ 64) {z : Bool} {x : List Pk} (hb : TwoAt b t G (famOf t0 e0 (pc 0)) x (if z = true then [pc 0] else [])) (hfg : G ≠ famOf t0 e0 (pc 0)) (hn : t ≤ now) (h3 : now < 30000) (hB : BoxAt u B N g mv b begun cs) (hN : ∀ k, N k → k < u.heap.size) (hx : ExAt u v P.exts) (hv : ∀ q, exK v = some q → N q) (hbg : begun + 1 < 4611686018427387904) :
    Calls Try.prog 17 #[.pointer (some ⟨g, 0, none⟩), .int .i64 now, .agg (SC 2 (tgV t0 e0)), .agg (SC 46 (pkV (pc 0) v))] u fun e w' => ∃ Q v2 mv' bg' cs' b', e = .returned (.tuple #[.agg (SC 46 (pkV Q v2)), .bool false]) ∧ v2.oneCell' = true ∧ BoxAt w' B N g mv' b' bg' cs' ∧ TwoAt b' now G (famOf t0 e0 (pc 0)) x [pc 0] ∧ bg' ≤ begun + 1 ∧ Spares N u w' := by
  cases z with
  | true =>
    refine (againW_run h (ks := [0]) (k := 0) hb.symm (Ne.symm hfg) hn h3 (by omega) (by simp) (by simp; omega) hB hN hx hv hbg).mono ?_
    rintro e w' ⟨mv', bg', cs', b', rfl, h1, h2, h4, h5⟩
    exact ⟨_, _, mv', bg', cs', b', rfl, rfl, h1, h2.symm, h4, h5⟩
  | false =>
    refine (stepW_run h hm64 (ks := []) (k := 0) hb.symm (Ne.symm hfg) hn h3 List.nodup_nil (by simp) (by omega) (by simp) hB hN hx hv hbg).mono ?_
    rintro e w' ⟨Q, v2, mv', bg', cs', b', rfl, h1, _, h2, h4, h5, h6⟩
    have e1 : ¬ (([] : List Nat).length + 1 = m) := by simp; omega
    rw [if_neg e1] at h4
    rw [decide_eq_false e1]
    exact ⟨Q, v2, mv', bg', cs', b', rfl, h1, h2, h4.symm, h5, h6⟩
end
/-- What Split tells of a whole packet: all its pieces, each right and small enough. -/
theorem split_whl {P : Pk} {mtu id : Int} (he : (splitP P mtu id).2 = 0) (ho : P.off ≤ 0) (hm : P.more = false) (hl : (splitP P mtu id).1.length ≤ 64) :
    ∃ pc m, Whl P pc m ∧ m ≤ 64 ∧ (splitP P mtu id).1 = (List.range m).map pc ∧ ∀ k, k < m → (sizeP (pc k) : Int) ≤ mtu := by
  obtain ⟨hr, hf, hc, h4⟩ := split_whole he ho hm
  rcases h4 with ⟨h5, h6⟩ | ⟨R, m, h5, h6, h7, h8⟩
  · refine ⟨fun _ => P, 1, .inr ⟨rfl, rfl, hr, hf, ?_, hm, hc⟩, by omega, h5, fun _ _ => h6⟩
    obtain ⟨_, _, _, _, _, _, h7, _, _⟩ := rgtP_iff.1 hr
    omega
  · exact ⟨pcs P id R, m, .inl ⟨id, R, h5, h6, rfl⟩, by rw [h7] at hl; simpa using hl, h7, h8⟩
theorem split_one {P : Pk} {mtu id : Int} (he : (splitP P mtu id).2 = 0) (ho : P.off ≤ 0) (hm : P.more = false) : (splitP P mtu id).1.length ≠ 0 := by
  obtain ⟨hr, hf, hc, h4⟩ := split_whole he ho hm
  rcases h4 with ⟨h5, h6⟩ | ⟨R, m, h5, h6, h7, h8⟩
  · rw [h5]; simp
  · rw [h7]; simp; omega
/-- What is left, and what came. -/
structure LeftOk (L ks : List Nat) (m : Nat) : Prop where
  nd : L.Nodup
  kd : ks.Nodup
  lt : ∀ k ∈ L, k < m
  kt : ∀ k ∈ ks, k < m
  ap : ∀ k ∈ L, k ∉ ks
  len : ks.length + L.length = m
theorem left_0 (m : Nat) : LeftOk (List.range m) [] m := ⟨List.nodup_range, List.nodup_nil, fun k hk => List.mem_range.1 hk, fun k hk => (by cases hk), fun k _ => (by simp), (by simp)⟩
theorem LeftOk.take {L ks : List Nat} {m a : Nat} (h : LeftOk L ks m) (ha : a < L.length) : LeftOk (L.take a ++ L.drop (a + 1)) (ks ++ [L.getD a 0]) m := by
  have e : L.getD a 0 = L[a] := by rw [List.getD_eq_getElem?_getD, List.getElem?_eq_getElem ha]; rfl
  have hL : L = L.take a ++ (L[a] :: L.drop (a + 1)) := by rw [← List.drop_eq_getElem_cons ha, List.take_append_drop]
  have hmem : L[a] ∈ L := List.getElem_mem ha
  have hn : (L.take a ++ (L[a] :: L.drop (a + 1))).Nodup := by rw [← hL]; exact h.nd
  rw [List.nodup_append] at hn
  obtain ⟨n1, n2, n3⟩ := hn
  rw [List.nodup_cons] at n2
  have sub : ∀ x ∈ L.take a ++ L.drop (a + 1), x ∈ L := fun x hx => by
    rcases List.mem_append.1 hx with h1 | h1
    · exact List.mem_of_mem_take h1
    · exact List.mem_of_mem_drop h1
  have ne : ∀ x ∈ L.take a ++ L.drop (a + 1), x ≠ L[a] := fun x hx => by
    rcases List.mem_append.1 hx with h1 | h1
    · exact n3 x h1 _ (List.mem_cons_self)
    · intro e; rw [e] at h1; exact n2.1 h1
  rw [e]
  refine ⟨?_, ?_, fun k hk => h.lt k (sub k hk), fun k hk => ?_, fun k hk h1 => ?_, ?_⟩
  · rw [List.nodup_append]
    exact ⟨n1, n2.2, fun x hx y hy => n3 x hx y (List.mem_cons_of_mem _ hy)⟩
  · rw [List.nodup_append]
    refine ⟨h.kd, by simp, fun x hx y hy => ?_⟩
    simp at hy
    rw [hy]
    intro e
    rw [e] at hx
    exact h.ap _ hmem hx
  · rcases List.mem_append.1 hk with h1 | h1
    · exact h.kt k h1
    · simp at h1; rw [h1]; exact h.lt _ hmem
  · rcases List.mem_append.1 h1 with h2 | h2
    · exact h.ap k (sub k hk) h2
    · simp at h2; exact ne k hk h2
  · have := h.len
    simp
    omega
/-- Which of n things a number speaks of. -/
def pickV (c n : Int) : Int := (if c < 0 then -(c + 1) else c).tmod n
theorem pick_lt {c : Int} {n : Nat} (hn : 0 < n) : 0 ≤ pickV c n ∧ pickV c n < n := by
  unfold pickV
  have h : 0 ≤ (if c < 0 then -(c + 1) else c) := by split <;> omega
  rw [Int.tmod_eq_emod_of_nonneg h]
  exact ⟨Int.emod_nonneg _ (by omega), Int.emod_lt_of_pos _ (by omega)⟩
end Go.Proofs.Ythnlfjkpiohooaa
