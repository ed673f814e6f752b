/-
  Own text. SessionOnce: what holds of both sessions and of all boxes on the way, kept by every step.
-/
import Derived.Test.YtbkbcfimpaolmaaSXZ
namespace Go.Proofs.Ytbkbcfimpaolmaa
open Go.RowKit Go.Proofs
set_option maxRecDepth 100000
structure ElOk (i : Int) (y : El) : Prop where
  bx : y.box = boxT (onKR y.idx) (nonN y.ctr) y.text ByteArray.empty
  i0 : 0 ≤ y.idx
  i1 : y.idx < 1200
  num : onNum y.idx < i
  u : U64 y.ctr
  sz : y.text.size = 8
def dnD (n : Nat) (Z : Nat → El) (L c : Int) : Prop := ∃ j, j < n ∧ (Z j).done = true ∧ (Z j).idx = L ∧ (Z j).ctr = c
structure OnI (i : Nat) (σ : Nat → Ses) (n : Nat → Nat) (Z : Nat → Nat → El) : Prop where
  ok : ∀ e, e < 2 → SesOk i (σ e)
  all : ∀ e, e < 2 → AllK (OnK i (dnD (n e) (Z e))) (σ e).K
  el : ∀ e j, e < 2 → j < n e → ElOk i (Z e j)
  nn : ∀ e, e < 2 → n e ≤ i
theorem OnK.congr {i : Int} {D D' : Int → Int → Prop} {k : Kp} (h : OnK i D k) (hD : ∀ c, D' k.loc c → D k.loc c) : OnK i D' k := ⟨h.ks, h.kr, h.far, h.l0, h.l1, h.num, fun c hc => h.done c (hD c hc)⟩
theorem ElOk.next {i : Int} {y : El} (h : ElOk i y) : ElOk (i + 1) y := ⟨h.bx, h.i0, h.i1, by have := h.num; omega, h.u, h.sz⟩
section
variable {i : Nat} {σ : Nat → Ses} {n : Nat → Nat} {Z : Nat → Nat → El}
theorem gE {α : Type} (f : Nat → α) (e : Nat) (x : α) : setG f e x e = x := by unfold setG; rw [if_pos rfl]
theorem gD {α : Type} (f : Nat → α) (e : Nat) (x : α) {d : Nat} (h : d ≠ e) : setG f e x d = f d := by unfold setG; rw [if_neg h]
theorem OnI.low (h : OnI i σ n Z) {e : Nat} (he : e < 2) : ∀ L c, dnD (n e) (Z e) L c → onNum L < (i : Int) := fun L c ⟨j, hj, _, hL, _⟩ => by rw [← hL]; exact (h.el e j he hj).num
theorem on0 : OnI 0 (fun _ => ses0) (fun _ => 0) (fun _ _ => el0) := ⟨fun _ _ => ok0, fun _ _ j hj he => absurd rfl he, fun _ _ _ h => by omega, fun _ _ => Nat.le_refl _⟩
theorem OnI.next (h : OnI i σ n Z) : OnI (i + 1) σ n Z :=
  ⟨fun e he => (h.ok e he).mono (by omega), fun e he => (h.all e he).mono (fun k hk => hk.next), fun e j he hj => (h.el e j he hj).next, fun e he => by have := h.nn e he; omega⟩
/-- One session goes on, nothing else. -/
theorem OnI.upd (h : OnI i σ n Z) {e : Nat} {s : Ses} (ok : SesOk (i + 1) s) (all : AllK (OnK (i + 1 : Nat) (dnD (n e) (Z e))) s.K) : OnI (i + 1) (setG σ e s) n Z := by
  refine ⟨fun d hd => ?_, fun d hd => ?_, h.next.el, h.next.nn⟩
  · by_cases ed : d = e
    · subst ed; rw [gE]; exact ok
    · rw [gD _ _ _ ed]; exact h.next.ok d hd
  · by_cases ed : d = e
    · subst ed; rw [gE]; exact all
    · rw [gD _ _ _ ed]; exact h.next.all d hd
theorem OnI.upd2 (h : OnI i σ n Z) {e o : Nat} {s t : Ses} (oks : SesOk (i + 1) s) (alls : AllK (OnK (i + 1 : Nat) (dnD (n e) (Z e))) s.K) (okt : SesOk (i + 1) t) (allt : AllK (OnK (i + 1 : Nat) (dnD (n o) (Z o))) t.K) : OnI (i + 1) (setG (setG σ e s) o t) n Z := by
  refine ⟨fun d hd => ?_, fun d hd => ?_, h.next.el, h.next.nn⟩
  · by_cases ed : d = o
    · subst ed; rw [gE]; exact okt
    · rw [gD _ _ _ ed]; exact (h.upd oks alls).ok d hd
  · by_cases ed : d = o
    · subst ed; rw [gE]; exact allt
    · rw [gD _ _ _ ed]; exact (h.upd oks alls).all d hd
theorem OnI.put (h : OnI i σ n Z) (hi : i < 200) {now : Int} (hn : now ≤ 9223372036854775807) {e o : Nat} (he : e < 2) (ho : o < 2) :
    putR (σ e) (ploc i) = ((σ e).c + 1, 0) ∧ putR (σ o) (pfar i) = ((σ o).c + 1, 0) ∧
    OnI (i + 1) (setG (setG σ e (putS (σ e) now (pks i) (pkr i) (ploc i) (pfar i) true)) o (putS (σ o) now (pkr i) (pks i) (pfar i) (ploc i) false)) n Z := by
  have e1 : ploc (i : Int) = i := by unfold ploc; omega
  have e2 : pfar (i : Int) = (i : Int) + 1000 := by unfold pfar; omega
  have a1 : atF (σ e).K (ploc i) = -1 := on_new (h.all e he) (by rw [e1]; unfold onNum; rw [if_pos (by omega)])
  have a2 : atF (σ o).K (pfar i) = -1 := on_new (h.all o ho) (by rw [e2]; unfold onNum; rw [if_neg (by omega)]; omega)
  refine ⟨by unfold putR; rw [if_pos a1], by unfold putR; rw [if_pos a2], h.upd2 ?_ ?_ ?_ ?_⟩
  · exact (h.ok e he).put hn true (pks_b _) (pkr_b _) (by rw [e1]; omega) (by rw [e1]; omega) (by rw [e2]; omega) (by rw [e2]; omega)
  · exact all_put ((h.all e he).mono (fun k hk => by have := hk.next; exact_mod_cast this)) now _ _ _ _ _ (by have := onk_pair (i := (i : Int)) (by omega) (by omega) (h.low he) ((σ e).c + 1) (max (σ e).t now) true; exact_mod_cast this)
  · exact (h.ok o ho).put hn false (pkr_b _) (pks_b _) (by rw [e2]; omega) (by rw [e2]; omega) (by rw [e1]; omega) (by rw [e1]; omega)
  · exact all_put ((h.all o ho).mono (fun k hk => by have := hk.next; exact_mod_cast this)) now _ _ _ _ _ (by have := onk_mirror (i := (i : Int)) (by omega) (by omega) (h.low ho) ((σ o).c + 1) (max (σ o).t now) false; exact_mod_cast this)
theorem OnI.seal_no (h : OnI i σ n Z) {now : Int} (hn : now ≤ 9223372036854775807) {e : Nat} (he : e < 2) : OnI (i + 1) (setG σ e (sealS (σ e) now)) n Z :=
  h.upd ((h.ok e he).seal hn) (all_seal (h.next.all e he) now (fun _ hk => hk.sent))
theorem OnI.seal_yes (h : OnI i σ n Z) (hi : i < 200) {now : Int} (hn : now ≤ 9223372036854775807) {e o : Nat} (he : e < 2) (ho : o < 2) {text : ByteArray} (ht : text.size = 8) (hs : sealOk (σ e) now = true) :
    OnI (i + 1) (setG σ e (sealS (σ e) now)) (setG n o (n o + 1)) (setG Z o (setG (Z o) (n o) ⟨text, boxT ((σ e).K 1).ks (nonN ((σ e).K 1).sent) text ByteArray.empty, ((σ e).K 1).far, ((σ e).K 1).sent, false⟩)) := by
  have h1 := h.seal_no hn he
  have hep : ((σ e).K 1).ep ≠ 0 := fun e1 => by unfold sealOk at hs; simp [e1] at hs
  have hk := h.all e he 1 (by omega) hep
  have hko := (h.ok e he).ok 1 (by omega) hep
  have hnum := hk.num
  have hl0 := hk.l0
  have hl1 := hk.l1
  have hloc : ((σ e).K 1).loc < 200 ∨ 1000 ≤ ((σ e).K 1).loc := by
    unfold onNum at hnum
    split at hnum <;> omega
  have hfn : 0 ≤ onFar ((σ e).K 1).loc ∧ onFar ((σ e).K 1).loc < 1200 ∧ onNum (onFar ((σ e).K 1).loc) < (i : Int) := by
    generalize ((σ e).K 1).loc = L at *
    unfold onFar onNum
    unfold onNum at hnum
    rcases hloc with hl | hl
    · rw [if_pos (show L < 1000 by omega)] at hnum ⊢
      rw [if_neg (show ¬ (L + 1000 < 1000) by omega)]
      omega
    · rw [if_neg (show ¬ L < 1000 by omega)] at hnum ⊢
      rw [if_pos (show L - 1000 < 1000 by omega)]
      omega
  have hy : ElOk ((i + 1 : Nat) : Int) ⟨text, boxT ((σ e).K 1).ks (nonN ((σ e).K 1).sent) text ByteArray.empty, ((σ e).K 1).far, ((σ e).K 1).sent, false⟩ := by
    refine ⟨?_, ?_, ?_, ?_, ?_, ht⟩
    · show boxT ((σ e).K 1).ks _ _ _ = boxT (onKR ((σ e).K 1).far) _ _ _
      rw [hk.far, on_turn hl0 hl1, hk.ks]
    · show 0 ≤ ((σ e).K 1).far; rw [hk.far]; exact hfn.1
    · show ((σ e).K 1).far < 1200; rw [hk.far]; exact hfn.2.1
    · show onNum ((σ e).K 1).far < _; rw [hk.far]; have := hfn.2.2; omega
    · show U64 ((σ e).K 1).sent; have := hko.s0; have := hko.s1; unfold U64; omega
  refine ⟨h1.ok, fun d hd => ?_, fun d j hd hj => ?_, fun d hd => ?_⟩
  · by_cases ed : d = o
    · subst ed
      rw [gE, gE]
      refine (h1.all d hd).mono (fun k hk => hk.congr (fun c hc => ?_))
      obtain ⟨j, hj, hdn, hL, hc⟩ := hc
      by_cases ej : j = n d
      · subst ej; rw [gE] at hdn; exact absurd hdn (by simp)
      · rw [gD _ _ _ ej] at hdn hL hc
        exact ⟨j, by omega, hdn, hL, hc⟩
    · rw [gD n o _ ed, gD Z o _ ed]; exact h1.all d hd
  · by_cases ed : d = o
    · subst ed
      rw [gE] at hj ⊢
      by_cases ej : j = n d
      · subst ej; rw [gE]; exact hy
      · rw [gD _ _ _ ej]; exact h1.el d j hd (by omega)
    · rw [gD n o _ ed] at hj; rw [gD Z o _ ed]; exact h1.el d j hd hj
  · by_cases ed : d = o
    · subst ed; rw [gE]; have := h.nn d hd; omega
    · rw [gD n o _ ed]; exact h1.nn d hd
theorem mark_same (Z : Nat → Nat → El) (e k : Nat) : setG Z e (setG (Z e) k (elDone (Z e k) (Z e k).done)) = Z := by
  funext d j
  unfold setG elDone
  by_cases ed : d = e
  · subst ed
    rw [if_pos rfl]
    by_cases ej : j = k
    · subst ej; rw [if_pos rfl]
    · rw [if_neg ej]
  · rw [if_neg ed]
/-- What comes of a box that comes. -/
theorem OnI.open (h : OnI i σ n Z) {now : Int} (hn : now ≤ 9223372036854775807) {e k : Nat} (he : e < 2) (hk : k < n e) :
    ((openS (σ e) now (Z e k).idx (Z e k).ctr (Z e k).box).1.2.2 = 0 ∧ (openS (σ e) now (Z e k).idx (Z e k).ctr (Z e k).box).1.1 = (Z e k).text ∧ (Z e k).done = false ∧ OnI (i + 1) (setG σ e (openS (σ e) now (Z e k).idx (Z e k).ctr (Z e k).box).2) n (setG Z e (setG (Z e) k (elDone (Z e k) true)))) ∨
    ((openS (σ e) now (Z e k).idx (Z e k).ctr (Z e k).box).1.2.2 ≠ 0 ∧ (openS (σ e) now (Z e k).idx (Z e k).ctr (Z e k).box).1.1 = ByteArray.empty ∧ OnI (i + 1) (setG σ e (openS (σ e) now (Z e k).idx (Z e k).ctr (Z e k).box).2) n (setG Z e (setG (Z e) k (elDone (Z e k) (Z e k).done)))) := by
  have hy := h.el e k he hk
  have hok := (h.ok e he).open (now := now) (x := (Z e k).idx) (c := (Z e k).ctr) (box := (Z e k).box) hn hy.u
  rcases open_ends (σ e) now (Z e k).idx (Z e k).ctr (Z e k).box with ⟨h1, h2, h3⟩ | ⟨h1, j, hj, hej, hx, hnc, hop, htx⟩
  · refine .inr ⟨h1, h2, ?_⟩
    rw [mark_same]
    refine h.upd hok ?_
    rw [h3]
    exact h.next.all e he
  · have hK := h.all e he j hj hej
    have hbx : openT ((σ e).K j).kr (nonN (Z e k).ctr) (Z e k).box ByteArray.empty = ((Z e k).text, 0) := by
      rw [hK.kr, hx, hy.bx, open_box]
    have hnd : (Z e k).done = false := by
      cases hd : (Z e k).done
      · rfl
      · exact absurd (hK.done (Z e k).ctr ⟨k, hk, hd, hx.symm, rfl⟩) hnc
    refine .inl ⟨h1, by rw [htx, hbx], hnd, ?_⟩
    have hall := all_open (Q := OnK ((i + 1 : Nat) : Int) (fun L c => dnD (n e) (Z e) L c ∨ L = (Z e k).idx ∧ c = (Z e k).ctr)) (h.next.all e he) now (Z e k).idx (Z e k).ctr (Z e k).box (fun q hq hl => hq.other hl) (fun q hq hl => by have := hq.took (Z e k).ctr; rw [hl] at this; exact this) (h.ok e he).one h1
    have hdn : ∀ L c, dnD (n e) (setG (Z e) k (elDone (Z e k) true)) L c → dnD (n e) (Z e) L c ∨ L = (Z e k).idx ∧ c = (Z e k).ctr := by
      rintro L c ⟨j, hj, hd, hL, hc⟩
      by_cases ej : j = k
      · subst ej
        rw [gE] at hL hc
        exact .inr ⟨hL.symm, hc.symm⟩
      · rw [gD _ _ _ ej] at hd hL hc
        exact .inl ⟨j, hj, hd, hL, hc⟩
    refine ⟨fun d hd => ?_, fun d hd => ?_, fun d j hd hj => ?_, h.next.nn⟩
    · by_cases ed : d = e
      · subst ed; rw [gE]; exact hok
      · rw [gD _ _ _ ed]; exact h.next.ok d hd
    · by_cases ed : d = e
      · subst ed
        rw [gE, gE]
        exact hall.mono (fun q hq => hq.congr (fun c hc => hdn _ c hc))
      · rw [gD σ e _ ed, gD Z e _ ed]; exact h.next.all d hd
    · by_cases ed : d = e
      · subst ed
        rw [gE]
        by_cases ej : j = k
        · subst ej
          rw [gE]
          have hy' := hy.next
          exact ⟨hy'.bx, hy'.i0, hy'.i1, by have := hy'.num; exact_mod_cast this, hy'.u, hy'.sz⟩
        · rw [gD _ _ _ ej]; exact h.next.el d j hd hj
      · rw [gD Z e _ ed]; exact h.next.el d j hd hj
theorem OnI.expire (h : OnI i σ n Z) {now : Int} (hn : now ≤ 9223372036854775807) {e o : Nat} (he : e < 2) (ho : o < 2) : OnI (i + 1) (setG (setG σ e (expireS (σ e) now)) o (expireS (σ o) now)) n Z :=
  h.upd2 (((h.ok e he).drop _ hn).mono (by omega)) (all_drop (h.next.all e he) _) (((h.ok o ho).drop _ hn).mono (by omega)) (all_drop (h.next.all o ho) _)
end
end Go.Proofs.Ytbkbcfimpaolmaa
