/-
  Own text. The code's table, told by what rows it has, without their order.
-/
import Derived.Test.YtcpnleanjclfjaaTCL
namespace Go.Proofs.Ytcpnleanjclfjaa
open Go.RowKit Go.Proofs
set_option maxRecDepth 100000
/-- A row is among the first m. -/
def Mem (ro : Nat → Rw) (m : Nat) (r : Rw) : Prop := ∃ j, j < m ∧ Eqr (ro j) r ∧ (ro j).o = r.o
theorem mem_put {ro : Nat → Rw} {m : Nat} {v : Bool} {b : Nat → Int} {n ow : Int} (hs : RSort ro m) (hno : ∀ j, j < m → ¬ Eqr (ro j) ⟨v, b, n, 0⟩) (hm : m < 64) : putE ro m v b n = 0 ∧ putM ro m v b n = m + 1 ∧ ∀ r, Mem (putRo ro m v b n ow) (m + 1) r ↔ Mem ro m r ∨ (Eqr ⟨v, b, n, ow⟩ r ∧ ow = r.o) := by
  have hat : ¬ isAt ro m (posF ro m v b n) v b n = true := fun h => by
    obtain ⟨j, hj, he⟩ := (isAt_iff hs v b n).1 h
    exact hno j hj he
  have hp := pos_le ro m v b n
  refine ⟨by unfold putE; rw [if_neg hat, if_neg (by omega)], by unfold putM; rw [if_neg hat, if_neg (by omega)], fun r => ?_⟩
  unfold putRo
  rw [if_neg hat, if_neg (by omega)]
  generalize posF ro m v b n = p at hp
  constructor
  · rintro ⟨j, hj, he, ho⟩
    unfold insZ at he ho
    by_cases c1 : j < p
    · rw [if_pos c1] at he ho
      exact .inl ⟨j, by omega, he, ho⟩
    · rw [if_neg c1] at he ho
      by_cases c2 : j = p
      · rw [if_pos c2] at he ho
        exact .inr ⟨he, ho⟩
      · rw [if_neg c2] at he ho
        exact .inl ⟨j - 1, by omega, he, ho⟩
  · rintro (⟨j, hj, he, ho⟩ | ⟨he, ho⟩)
    · by_cases c1 : j < p
      · refine ⟨j, by omega, ?_⟩
        unfold insZ
        rw [if_pos c1]
        exact ⟨he, ho⟩
      · refine ⟨j + 1, by omega, ?_⟩
        unfold insZ
        rw [if_neg (by omega), if_neg (by omega), Nat.add_sub_cancel]
        exact ⟨he, ho⟩
    · refine ⟨p, by omega, ?_⟩
      unfold insZ
      rw [if_neg (by omega), if_pos rfl]
      exact ⟨he, ho⟩
theorem mem_drop {ro : Nat → Rw} {m : Nat} {v : Bool} {b : Nat → Int} {n o : Int} (hs : RSort ro m) (hin : Mem ro m ⟨v, b, n, o⟩) : dropA ro m v b n = .tuple #[.int .i64 o, .bool true] ∧ dropM ro m v b n = m - 1 ∧ ∀ r, Mem (dropRo ro m v b n) (m - 1) r ↔ Mem ro m r ∧ ¬ Eqr r ⟨v, b, n, 0⟩ := by
  obtain ⟨i, hi, hei, hoi⟩ := hin
  have hd : drpF ro m v b n < m := by
    by_cases h : drpF ro m v b n < m
    · exact h
    · exact absurd hei (drp_ge h i hi)
  have hed := drp_lt hd
  have hdi : drpF ro m v b n = i := sort_one hs hd hi (Eqr.trans hed (Eqr.symm hei))
  refine ⟨?_, by unfold dropM; rw [if_pos hd], fun r => ?_⟩
  · unfold dropA
    rw [if_pos hd, hdi, hoi]
  · unfold dropRo
    rw [if_pos hd, hdi]
    constructor
    · rintro ⟨j, hj, he, ho⟩
      unfold remZ at he ho
      by_cases c : j < i
      · rw [if_pos c] at he ho
        refine ⟨⟨j, by omega, he, ho⟩, fun hr => ?_⟩
        have := sort_one hs (by omega) hi (Eqr.trans he (Eqr.trans hr (Eqr.symm hei)))
        omega
      · rw [if_neg c] at he ho
        refine ⟨⟨j + 1, by omega, he, ho⟩, fun hr => ?_⟩
        have := sort_one hs (by omega) hi (Eqr.trans he (Eqr.trans hr (Eqr.symm hei)))
        omega
    · rintro ⟨⟨j, hj, he, ho⟩, hn⟩
      have hji : j ≠ i := fun e => hn (by
        rw [e] at he
        exact Eqr.trans (Eqr.symm he) hei)
      by_cases c : j < i
      · refine ⟨j, by omega, ?_⟩
        unfold remZ
        rw [if_pos c]
        exact ⟨he, ho⟩
      · refine ⟨j - 1, by omega, ?_⟩
        unfold remZ
        rw [if_neg (by omega), show j - 1 + 1 = j by omega]
        exact ⟨he, ho⟩
/-- A table of the code that has just the rows of M, m of them. -/
def TabP (w : World) (t m : Nat) (M : Rw → Prop) : Prop := ∃ ro, TabC w t m ro ∧ ∀ r, M r ↔ Mem ro m r
/-- What Find tells of a table that has just the rows of M. -/
def FindR (M : Rw → Prop) (v : Bool) (b : Nat → Int) (po : Int) (pv : Bool) (pb : Nat → Int) (pn : Int) (pt : Bool) : Prop :=
  (pt = false ∧ po = 0 ∧ pv = false ∧ (∀ i, pb i = 0) ∧ pn = 0 ∧ ∀ r, M r → ¬ Has r v b) ∨ (pt = true ∧ M ⟨pv, pb, pn, po⟩ ∧ Has ⟨pv, pb, pn, po⟩ v b ∧ ∀ r, M r → Has r v b → r.n ≤ pn)
theorem Has.congr {r s : Rw} {v : Bool} {b : Nat → Int} (h : Has r v b) (e : Eqr r s) (hn : r.n ≤ 128) : Has s v b := by
  obtain ⟨e1, e2, e3⟩ := eqP_iff.1 e
  obtain ⟨h1, h2, h3⟩ := has_iff.1 h
  refine has_iff.2 ⟨h1, by rw [← e1]; exact h2, fun i hi => ?_⟩
  rw [← e3] at hi
  rw [← h3 i hi]
  unfold bitF
  rw [e2 (i / 8) (by omega)]
section
variable {w w' : World} {t m : Nat} {M M' : Rw → Prop}
theorem TabP.lt (h : TabP w t m M) : t < w.heap.size := by
  obtain ⟨ro, h1, _⟩ := h
  exact h1.lt
theorem TabP.le (h : TabP w t m M) : m ≤ 64 := by
  obtain ⟨ro, h1, _⟩ := h
  exact h1.le
theorem TabP.no (h : TabP w t m M) : NoNd w t := by
  obtain ⟨ro, h1, _⟩ := h
  exact h1.no
theorem TabP.below (h : TabP w t m M) (hb : Below w.heap.size w w') : TabP w' t m M := by
  obtain ⟨ro, h1, h2⟩ := h
  exact ⟨ro, h1.below hb, h2⟩
theorem TabP.tou {T : Nat → Prop} (h : TabP w t m M) (ht : Touch T w w') (hn : ∀ k, T k → k ≠ t ∧ NoNd w k) : TabP w' t m M := by
  obtain ⟨ro, h1, h2⟩ := h
  exact ⟨ro, h1.tou ht hn, h2⟩
theorem TabP.congr (h : TabP w t m M) (e : ∀ r, M' r ↔ M r) : TabP w t m M' := by
  obtain ⟨ro, h1, h2⟩ := h
  exact ⟨ro, h1, fun r => (e r).trans (h2 r)⟩
theorem TabP.blk (h : TabP w t m M) : ∃ V, SAt w t 58 3 V := by
  obtain ⟨ro, h1, _⟩ := h
  exact h1.blk
/-- Its rows are whole, and of one prefix there is one owner. -/
theorem TabP.wh (h : TabP w t m M) {r : Rw} (hr : M r) : ∃ s, M s ∧ RwW s ∧ Eqr s r ∧ s.o = r.o := by
  obtain ⟨ro, h1, h2⟩ := h
  obtain ⟨j, hj, he, ho⟩ := (h2 r).1 hr
  exact ⟨ro j, (h2 _).2 ⟨j, hj, Eqr.refl _, rfl⟩, (h1.row j hj).1, he, ho⟩
theorem TabP.one (h : TabP w t m M) {r s : Rw} (hr : M r) (hs : M s) (e : Eqr r s) : r.o = s.o := by
  obtain ⟨ro, h1, h2⟩ := h
  obtain ⟨j, hj, he, ho⟩ := (h2 r).1 hr
  obtain ⟨k, hk, hf, hp⟩ := (h2 s).1 hs
  obtain rfl := sort_one h1.sort hj hk (Eqr.trans he (Eqr.trans e (Eqr.symm hf)))
  exact ho.symm.trans hp
theorem newP (w : World) : Calls Try.prog 9 #[] w fun e w' => ∃ t, e = .returned (.pointer (some ⟨t, 0, none⟩)) ∧ w.heap.size ≤ t ∧ TabP w' t 0 (fun _ => False) ∧ Below w.heap.size w w' := by
  refine (newC awR0 w).mono ?_
  rintro e w' ⟨t, rfl, h1, h2, h3⟩
  exact ⟨t, rfl, h1, ⟨awR0, h2, fun r => ⟨fun h => h.elim, fun ⟨j, hj, _⟩ => by omega⟩⟩, h3⟩
theorem lenP (h : TabP w t m M) : Calls Try.prog 17 #[.pointer (some ⟨t, 0, none⟩)] w fun e w' => e = .returned (.int .i64 (m : Int)) ∧ Below w.heap.size w w' := by
  obtain ⟨ro, h1, _⟩ := h
  exact lenC h1
theorem putP (h : TabP w t m M) (v : Bool) (b : Nat → Int) (n ow : Int) (hb : Byts 16 b) (hr : rightF v b n = true) (hm : m < 64) (hno : ∀ r, M r → ¬ Eqr r ⟨v, whB b n, n, 0⟩) : Calls Try.prog 15 #[.pointer (some ⟨t, 0, none⟩), .agg (SC 18 (prV v b n)), .int .i64 ow] w fun e w' => e = .returned (.int .i64 0) ∧ TabP w' t (m + 1) (fun r => M r ∨ (Eqr ⟨v, whB b n, n, ow⟩ r ∧ ow = r.o)) ∧ Touch (fun k => k = t) w w' := by
  obtain ⟨ro, h1, h2⟩ := h
  obtain ⟨e1, e2, e3⟩ := mem_put (ow := ow) h1.sort (v := v) (b := whB b n) (n := n) (fun j hj he => hno (ro j) ((h2 _).2 ⟨j, hj, Eqr.refl _, rfl⟩) he) hm
  refine (putC h1 v b n ow hb hr).mono ?_
  rintro e w' ⟨rfl, h3, h4⟩
  rw [e1]
  rw [e2] at h3
  exact ⟨rfl, ⟨_, h3, fun r => by simp only [e3, h2]⟩, h4⟩
theorem dropP (h : TabP w t m M) (v : Bool) (b : Nat → Int) (n o : Int) (hb : Byts 16 b) (hr : rightF v b n = true) (hin : M ⟨v, whB b n, n, o⟩) : Calls Try.prog 11 #[.pointer (some ⟨t, 0, none⟩), .agg (SC 18 (prV v b n))] w fun e w' => e = .returned (.tuple #[.int .i64 o, .bool true]) ∧ TabP w' t (m - 1) (fun r => M r ∧ ¬ Eqr r ⟨v, whB b n, n, 0⟩) ∧ Touch (fun k => k = t) w w' := by
  obtain ⟨ro, h1, h2⟩ := h
  obtain ⟨e1, e2, e3⟩ := mem_drop h1.sort ((h2 _).1 hin)
  refine (dropC h1 v b n hb hr).mono ?_
  rintro e w' ⟨rfl, h3, h4⟩
  rw [e1]
  rw [e2] at h3
  exact ⟨rfl, ⟨_, h3, fun r => by simp only [e3, h2]⟩, h4⟩
theorem findP (h : TabP w t m M) (v : Bool) (b : Nat → Int) (hb : Byts 16 b) : ∃ po pv pb pn pt, FindR M v b po pv pb pn pt ∧ Calls Try.prog 13 #[.pointer (some ⟨t, 0, none⟩), .agg (SC 17 (adV v b))] w fun e w' => e = .returned (.tuple #[.int .i64 po, .agg (SC 18 (prV pv pb pn)), .bool pt]) ∧ Below w.heap.size w w' := by
  obtain ⟨ro, h1, h2⟩ := h
  have hc := findC h1 v b hb
  unfold findA at hc
  rcases find_spec ro v b m with ⟨e, hn⟩ | ⟨k, hk, e, q1, q2⟩
  · rw [if_pos (by omega)] at hc
    refine ⟨_, _, _, _, _, .inl ⟨rfl, rfl, rfl, fun _ => rfl, rfl, fun r hr hh => ?_⟩, hc⟩
    obtain ⟨j, hj, he, _⟩ := (h2 r).1 hr
    refine hn j hj (Has.congr hh (Eqr.symm he) ?_)
    rw [← (eqP_iff.1 he).2.2]
    exact (h1.row j hj).1.ok.n1
  · rw [if_neg (by omega), e, Int.toNat_natCast] at hc
    refine ⟨_, _, _, _, _, .inr ⟨rfl, (h2 _).2 ⟨k, hk, Eqr.refl _, rfl⟩, q1, fun r hr hh => ?_⟩, hc⟩
    obtain ⟨j, hj, he, _⟩ := (h2 r).1 hr
    have e3 := (eqP_iff.1 he).2.2
    have := q2 j hj (Has.congr hh (Eqr.symm he) (by rw [← e3]; exact (h1.row j hj).1.ok.n1))
    show r.n ≤ (ro k).n
    omega
/-- Two tables of the same rows tell the same. -/
theorem find_two {w1 w2 : World} {t1 t2 m1 m2 : Nat} {v v1 v2 : Bool} {b b1 b2 : Nat → Int} {o1 o2 n1 n2 : Int} {p1 p2 : Bool} (h1 : TabP w1 t1 m1 M) (_h2 : TabP w2 t2 m2 M) (f1 : FindR M v b o1 v1 b1 n1 p1) (f2 : FindR M v b o2 v2 b2 n2 p2) : o1 = o2 ∧ eqPF v1 b1 n1 v2 b2 n2 = true ∧ p1 = p2 := by
  rcases f1 with ⟨rfl, rfl, rfl, a1, rfl, a2⟩ | ⟨rfl, a1, a2, a3⟩
  · rcases f2 with ⟨rfl, rfl, rfl, c1, rfl, c2⟩ | ⟨rfl, c1, c2, c3⟩
    · exact ⟨rfl, eqP_iff.2 ⟨rfl, fun i _ => by rw [a1, c1], rfl⟩, rfl⟩
    · exact absurd c2 (a2 _ c1)
  · rcases f2 with ⟨rfl, rfl, rfl, c1, rfl, c2⟩ | ⟨rfl, c1, c2, c3⟩
    · exact absurd a2 (c2 _ a1)
    · have hn : n1 = n2 := by
        have := a3 _ c1 c2
        have := c3 _ a1 a2
        simp only at *
        omega
      obtain ⟨s1, _, ws1, es1, os1⟩ := h1.wh a1
      obtain ⟨s2, _, ws2, es2, os2⟩ := h1.wh c1
      have n1e : s1.n = n1 := (eqP_iff.1 es1).2.2
      have n2e : s2.n = n2 := (eqP_iff.1 es2).2.2
      have hs1 : Has s1 v b := Has.congr a2 (Eqr.symm es1) (by show n1 ≤ 128; rw [← n1e]; exact ws1.ok.n1)
      have hs2 : Has s2 v b := Has.congr c2 (Eqr.symm es2) (by show n2 ≤ 128; rw [← n2e]; exact ws2.ok.n1)
      have he := has_same ws1 ws2 hs1 hs2 (by omega)
      have hE : Eqr ⟨v1, b1, n1, o1⟩ ⟨v2, b2, n2, o2⟩ := Eqr.trans (Eqr.symm es1) (Eqr.trans he es2)
      exact ⟨h1.one a1 c1 hE, hE, rfl⟩
end
end Go.Proofs.Ytcpnleanjclfjaa
