/-
  Own text. SessionOnce: two sessions and two ways in memory.
-/
import Derived.Test.YtbkbcfimpaolmaaSXY
namespace Go.Proofs.Ytbkbcfimpaolmaa
open Go.RowKit Go.Proofs
set_option maxRecDepth 100000
/-- Two sessions (in the blocks S 0, S 1), the array of pointers to them, the array of ways, the rows of the ways; all above w0, and apart from one another and from the blocks N. -/
structure OnAt (w0 : World) (bs bw : Nat) (b : Nat → Nat) (N : Nat → Prop) (w : World) (σ : Nat → Ses) (S : Nat → Nat → Prop) (v : Nat → Value) (n : Nat → Nat) (Z : Nat → Nat → El) : Prop where
  ses : ∀ e, e < 2 → SesAt w (b e) (σ e) (S e)
  arr : SAt w bs 25 2 (fun e => .pointer (some ⟨b e, 0, none⟩))
  way : SAt w bw 28 2 v
  row : ∀ e, e < 2 → w.ownsRow w0.heap.size 46 5 (v e) (n e) (elX (Z e) (n e))
  s0 : ∀ e k, e < 2 → S e k → w0.heap.size ≤ k ∧ k ≠ bs ∧ k ≠ bw ∧ ¬ N k
  r0 : ∀ e k, e < 2 → (v e).ownBlock = some k → k ≠ bs ∧ k ≠ bw ∧ ¬ N k
  sr : ∀ e d k, e < 2 → d < 2 → S e k → (v d).ownBlock ≠ some k
  ss : ∀ e d k, e < 2 → d < 2 → e ≠ d → S e k → ¬ S d k
  rr : ∀ e d k, e < 2 → d < 2 → e ≠ d → (v e).ownBlock = some k → (v d).ownBlock ≠ some k
  ne : bs ≠ bw
  nN : ¬ N bs ∧ ¬ N bw
  lo : w0.heap.size ≤ bs ∧ w0.heap.size ≤ bw
  bel : Below w0.heap.size w0 w
def OnSt (w0 : World) (bs bw : Nat) (b : Nat → Nat) (N : Nat → Prop) (w : World) (σ : Nat → Ses) (v : Nat → Value) (n : Nat → Nat) (Z : Nat → Nat → El) : Prop := ∃ S, OnAt w0 bs bw b N w σ S v n Z
def Foot (bs bw : Nat) (S : Nat → Nat → Prop) (v : Nat → Value) (k : Nat) : Prop := k = bs ∨ k = bw ∨ (∃ e, e < 2 ∧ S e k) ∨ ∃ e, e < 2 ∧ (v e).ownBlock = some k
section
variable {w0 w w' : World} {bs bw : Nat} {b : Nat → Nat} {N N' : Nat → Prop} {σ : Nat → Ses} {S : Nat → Nat → Prop} {v : Nat → Value} {n : Nat → Nat} {Z : Nat → Nat → El}
theorem OnAt.lt (h : OnAt w0 bs bw b N w σ S v n Z) : ∀ k, Foot bs bw S v k → k < w.heap.size := by
  rintro k (rfl | rfl | ⟨e, he, hk⟩ | ⟨e, he, hk⟩)
  · exact h.arr.lt
  · exact h.way.lt
  · exact (h.ses e he).lt k hk
  · exact ((h.row e he).lt k hk).2
theorem OnAt.noN (h : OnAt w0 bs bw b N w σ S v n Z) : ∀ k, Foot bs bw S v k → ¬ N k := by
  rintro k (rfl | rfl | ⟨e, he, hk⟩ | ⟨e, he, hk⟩)
  · exact h.nN.1
  · exact h.nN.2
  · exact (h.s0 e k he hk).2.2.2
  · exact (h.r0 e k he hk).2.2
theorem OnAt.same (h : OnAt w0 bs bw b N w σ S v n Z) (hb : ∀ k, Foot bs bw S v k → w'.heap[k]? = w.heap[k]?) (hB : Below w0.heap.size w0 w') : OnAt w0 bs bw b N w' σ S v n Z :=
  ⟨fun e he => (h.ses e he).same (fun k hk => hb k (.inr (.inr (.inl ⟨e, he, hk⟩)))), h.arr.block (hb bs (.inl rfl)), h.way.block (hb bw (.inr (.inl rfl))), fun e he => ownM_block (h.row e he) (fun k hk => hb k (.inr (.inr (.inr ⟨e, he, hk⟩)))), h.s0, h.r0, h.sr, h.ss, h.rr, h.ne, h.nN, h.lo, hB⟩
theorem OnSt.below (h : OnSt w0 bs bw b N w σ v n Z) (hb : Below w.heap.size w w') : OnSt w0 bs bw b N w' σ v n Z := by
  obtain ⟨S, h⟩ := h
  exact ⟨S, h.same (fun k hk => hb.block k (h.lt k hk)) (h.bel.trans (hb.mono h.bel.size))⟩
theorem OnSt.bel (h : OnSt w0 bs bw b N w σ v n Z) : Below w0.heap.size w0 w := by obtain ⟨S, h⟩ := h; exact h.bel
theorem OnSt.size (h : OnSt w0 bs bw b N w σ v n Z) : w0.heap.size ≤ w.heap.size := h.bel.size
theorem OnSt.sub (h : OnSt w0 bs bw b N w σ v n Z) (hN : ∀ k, N' k → N k) : OnSt w0 bs bw b N' w σ v n Z := by
  obtain ⟨S, h⟩ := h
  exact ⟨S, h.ses, h.arr, h.way, h.row, fun e k he hk => ⟨(h.s0 e k he hk).1, (h.s0 e k he hk).2.1, (h.s0 e k he hk).2.2.1, fun hn => (h.s0 e k he hk).2.2.2 (hN k hn)⟩, fun e k he hk => ⟨(h.r0 e k he hk).1, (h.r0 e k he hk).2.1, fun hn => (h.r0 e k he hk).2.2 (hN k hn)⟩, h.sr, h.ss, h.rr, h.ne, ⟨fun hn => h.nN.1 (hN _ hn), fun hn => h.nN.2 (hN _ hn)⟩, h.lo, h.bel⟩
theorem OnSt.keep {g : Nat} (h : OnSt w0 bs bw b N w σ v n Z) (hg : w.heap.size ≤ g) (hb : Below w.heap.size w w') : OnSt w0 bs bw b (fun k => N k ∨ k = g) w' σ v n Z := by
  obtain ⟨S, h⟩ := h
  have hn : ∀ k, Foot bs bw S v k → ¬ (N k ∨ k = g) := fun k hk e => e.elim (h.noN k hk) (fun e => by have := h.lt k hk; omega)
  have h' := h.same (w' := w') (fun k hk => hb.block k (h.lt k hk)) (h.bel.trans (hb.mono h.bel.size))
  exact ⟨S, h'.ses, h'.arr, h'.way, h'.row, fun e k he hk => ⟨(h.s0 e k he hk).1, (h.s0 e k he hk).2.1, (h.s0 e k he hk).2.2.1, hn k (.inr (.inr (.inl ⟨e, he, hk⟩)))⟩, fun e k he hk => ⟨(h.r0 e k he hk).1, (h.r0 e k he hk).2.1, hn k (.inr (.inr (.inr ⟨e, he, hk⟩)))⟩, h.sr, h.ss, h.rr, h.ne, ⟨hn bs (.inl rfl), hn bw (.inr (.inl rfl))⟩, h.lo, h'.bel⟩
theorem OnSt.only {g : Nat} (h : OnSt w0 bs bw b N w σ v n Z) (hN : N g) (o : Only g w w') (hg : w0.heap.size ≤ g) : OnSt w0 bs bw b N w' σ v n Z := by
  obtain ⟨S, h⟩ := h
  exact ⟨S, h.same (fun k hk => o.block k (fun e => h.noN k hk (e ▸ hN))) (h.bel.trans (o.below hg))⟩
/-- One session goes on. -/
theorem OnSt.goes {e : Nat} {s' : Ses} (he : e < 2) (h : OnAt w0 bs bw b N w σ S v n Z) (hN : ∀ k, N k → k < w.heap.size) (hG : Goes SesAt w (b e) (S e) s' w') : OnSt w0 bs bw b N w' (setG σ e s') v n Z ∧ Kept N w w' := by
  obtain ⟨S', h1, hT, h2⟩ := hG
  have hB : Below w0.heap.size w0 w' := h.bel.trans ⟨hT.os, hT.tape, hT.output, hT.size, fun k hk => hT.block k (Nat.lt_of_lt_of_le hk h.bel.size) (fun hs => by have := (h.s0 e k he hs).1; omega)⟩
  have ee : setG S e S' e = S' := by unfold setG; rw [if_pos rfl]
  have ed : ∀ d, d ≠ e → setG S e S' d = S d := fun d hd => by unfold setG; rw [if_neg hd]
  have fe : setG σ e s' e = s' := by unfold setG; rw [if_pos rfl]
  have fd : ∀ d, d ≠ e → setG σ e s' d = σ d := fun d hd => by unfold setG; rw [if_neg hd]
  have hsz := h.bel.size
  have hsb : ∀ k, Foot bs bw S v k → ¬ S e k → w'.heap[k]? = w.heap[k]? := fun k hk hn => hT.block k (h.lt k hk) hn
  refine ⟨⟨setG S e S', ?_, h.arr.block (hsb bs (.inl rfl) (fun hs => (h.s0 e bs he hs).2.1 rfl)), h.way.block (hsb bw (.inr (.inl rfl)) (fun hs => (h.s0 e bw he hs).2.2.1 rfl)), fun d hd => ownM_block (h.row d hd) (fun k hk => hsb k (.inr (.inr (.inr ⟨d, hd, hk⟩))) (fun hs => h.sr e d k he hd hs hk)), ?_, h.r0, ?_, ?_, h.rr, h.ne, h.nN, h.lo, hB⟩, hT.size, fun k hk hn => hT.block k hk (fun hs => (h.s0 e k he hs).2.2.2 hn)⟩
  · intro d hd
    by_cases ede : d = e
    · subst ede; rw [ee, fe]; exact h1
    · rw [ed d ede, fd d ede]
      exact (h.ses d hd).same (fun k hk => hsb k (.inr (.inr (.inl ⟨d, hd, hk⟩))) (h.ss d e k hd he ede hk))
  · intro d k hd hk
    by_cases ede : d = e
    · subst ede
      rw [ee] at hk
      rcases h2 k hk with hs | hs
      · exact h.s0 d k hd hs
      · exact ⟨by omega, fun e1 => by have := h.arr.lt; omega, fun e1 => by have := h.way.lt; omega, fun hn => by have := hN k hn; omega⟩
    · rw [ed d ede] at hk; exact h.s0 d k hd hk
  · intro d c k hd hc hk
    by_cases ede : d = e
    · subst ede
      rw [ee] at hk
      rcases h2 k hk with hs | hs
      · exact h.sr d c k hd hc hs
      · exact fun e1 => by have := ((h.row c hc).lt k e1).2; omega
    · rw [ed d ede] at hk; exact h.sr d c k hd hc hk
  · intro d c k hd hc hdc hk
    by_cases ede : d = e
    · subst ede
      rw [ee] at hk
      rw [ed c (Ne.symm hdc)]
      rcases h2 k hk with hs | hs
      · exact h.ss d c k hd hc hdc hs
      · exact fun e1 => by have := (h.ses c hc).lt k e1; omega
    · rw [ed d ede] at hk
      by_cases ece : c = e
      · subst ece
        rw [ee]
        intro hk2
        rcases h2 k hk2 with hs | hs
        · exact h.ss d c k hd hc hdc hk hs
        · have := (h.ses d hd).lt k hk; omega
      · rw [ed c ece]; exact h.ss d c k hd hc hdc hk
theorem OnSt.call {e : Nat} {s' : Ses} {f : FuncId} {args : Array Value} {P : Ending → World → Prop} (he : e < 2) (h : OnSt w0 bs bw b N w σ v n Z) (hN : ∀ k, N k → k < w.heap.size) (hC : ∀ S, SesAt w (b e) (σ e) S → Calls Try.prog f args w fun en w' => P en w' ∧ Goes SesAt w (b e) S s' w') : Calls Try.prog f args w fun en w' => P en w' ∧ OnSt w0 bs bw b N w' (setG σ e s') v n Z ∧ Kept N w w' := by
  obtain ⟨S, h⟩ := h
  exact (hC (S e) (h.ses e he)).mono (fun en w' ⟨p, g⟩ => ⟨p, OnSt.goes he h hN g⟩)
/-- A box is put on the way e. -/
theorem OnSt.more {e : Nat} {v' : Value} {y : El} (he : e < 2) (h : OnSt w0 bs bw b N w σ v n Z) (hN : ∀ k, N k → k < w.heap.size) (hD : w'.ownsRow w0.heap.size 46 5 v' (n e + 1) (elX (setG (Z e) (n e) y) (n e + 1))) (hg : w.grownBy w' (v e).ownBlock) (hq : ∀ q, v'.ownBlock = some q → (v e).ownBlock = some q ∨ w.heap.size ≤ q) :
    OnSt w0 bs bw b N (w'.setCell ⟨bw, e, none⟩ v') σ (setG v e v') (setG n e (n e + 1)) (setG Z e (setG (Z e) (n e) y)) ∧ Kept N w (w'.setCell ⟨bw, e, none⟩ v') := by
  obtain ⟨S, h⟩ := h
  have o : Only bw w' (w'.setCell ⟨bw, e, none⟩ v') := only_set
  have hsz := h.bel.size
  have ge : ∀ {α : Type} (f : Nat → α) (x : α), setG f e x e = x := fun f x => by unfold setG; rw [if_pos rfl]
  have gd : ∀ {α : Type} (f : Nat → α) (x : α) (d : Nat), d ≠ e → setG f e x d = f d := fun f x d hd => by unfold setG; rw [if_neg hd]
  have hblk : ∀ k, k < w.heap.size → (v e).ownBlock ≠ some k → k ≠ bw → (w'.setCell ⟨bw, e, none⟩ v').heap[k]? = w.heap[k]? := fun k hk hne hb => (o.block k hb).trans (hg.block k hk (fun e1 => hne e1.symm))
  have hw : SAt w' bw 28 2 v := h.way.block (hg.block bw h.way.lt (fun e1 => (h.r0 e bw he e1.symm).2.1 rfl))
  have hB : Below w0.heap.size w0 (w'.setCell ⟨bw, e, none⟩ v') := h.bel.trans ⟨o.os.trans hg.os, o.tape.trans hg.tape, o.output.trans hg.output, by rw [o.size]; exact hg.size, fun k hk => hblk k (by omega) (fun e1 => by have := ((h.row e he).lt k e1).1; omega) (fun e1 => by have := h.lo.2; omega)⟩
  have hv'n : ∀ q, v'.ownBlock = some q → q ≠ bs ∧ q ≠ bw ∧ ¬ N q := fun q hk => by
    rcases hq q hk with e1 | e1
    · exact h.r0 e q he e1
    · exact ⟨fun e2 => by have := h.arr.lt; omega, fun e2 => by have := h.way.lt; omega, fun hn => by have := hN q hn; omega⟩
  refine ⟨⟨S, fun d hd => (h.ses d hd).same (fun k hk => hblk k ((h.ses d hd).lt k hk) (h.sr d e k hd he hk) (h.s0 d k hd hk).2.2.1), h.arr.block (hblk bs h.arr.lt (fun e1 => (h.r0 e bs he e1).1 rfl) h.ne), (hw.set e v' he).congr (fun i hi => by unfold setG; rfl), ?_, h.s0, ?_, ?_, h.ss, ?_, h.ne, h.nN, h.lo, hB⟩, by rw [o.size]; exact hg.size, fun k hk hn => hblk k hk (fun e1 => (h.r0 e k he e1).2.2 hn) (fun e1 => h.nN.2 (e1 ▸ hn))⟩
  · intro d hd
    by_cases ede : d = e
    · subst ede
      rw [ge, ge, ge]
      exact ownM_block hD (fun k hk => o.block k (hv'n k hk).2.1)
    · rw [gd _ _ d ede, gd _ _ d ede, gd _ _ d ede]
      exact ownM_block (h.row d hd) (fun k hk => hblk k ((h.row d hd).lt k hk).2 (h.rr d e k hd he ede hk) (h.r0 d k hd hk).2.1)
  · intro d k hd hk
    by_cases ede : d = e
    · subst ede; rw [ge] at hk; exact hv'n k hk
    · rw [gd _ _ d ede] at hk; exact h.r0 d k hd hk
  · intro d c k hd hc hk hv
    by_cases ece : c = e
    · subst ece
      rw [ge] at hv
      rcases hq k hv with e1 | e1
      · exact h.sr d c k hd hc hk e1
      · have := (h.ses d hd).lt k hk; omega
    · rw [gd _ _ c ece] at hv; exact h.sr d c k hd hc hk hv
  · intro d c k hd hc hdc hk hv
    by_cases ede : d = e
    · subst ede
      rw [ge] at hk
      rw [gd _ _ c (Ne.symm hdc)] at hv
      rcases hq k hk with e1 | e1
      · exact h.rr d c k hd hc hdc e1 hv
      · have := ((h.row c hc).lt k hv).2; omega
    · rw [gd _ _ d ede] at hk
      by_cases ece : c = e
      · subst ece
        rw [ge] at hv
        rcases hq k hv with e1 | e1
        · exact h.rr d c k hd hc hdc hk e1
        · have := ((h.row d hd).lt k hk).2; omega
      · rw [gd _ _ c ece] at hv; exact h.rr d c k hd hc hdc hk hv
/-- A box of the way e is marked. -/
theorem OnSt.mark {e g cap k : Nat} (he : e < 2) (h : OnSt w0 bs bw b N w σ v n Z) (hv : v e = .slice (some ⟨g, 0, none⟩) (n e) cap) (hk : k < n e) (d : Bool) : OnSt w0 bs bw b N (w.setCell ⟨g, 5 * k + 4, none⟩ (.bool d)) σ v n (setG Z e (setG (Z e) k (elDone (Z e k) d))) ∧ Only g w (w.setCell ⟨g, 5 * k + 4, none⟩ (.bool d)) := by
  obtain ⟨S, h⟩ := h
  have o : Only g w (w.setCell ⟨g, 5 * k + 4, none⟩ (.bool d)) := only_set
  have hg : (v e).ownBlock = some g := by rw [hv]; rfl
  have hge := ((h.row e he).lt g hg).1
  refine ⟨⟨S, fun d hd => (h.ses d hd).same (fun k hk => o.block k (fun e1 => h.sr d e k hd he hk (e1 ▸ hg))), h.arr.block (o.block bs (Ne.symm (h.r0 e g he hg).1)), h.way.block (o.block bw (Ne.symm (h.r0 e g he hg).2.1)), ?_, h.s0, h.r0, h.sr, h.ss, h.rr, h.ne, h.nN, h.lo, h.bel.trans (o.below hge)⟩, o⟩
  intro c hc
  by_cases ece : c = e
  · subst ece
    rw [show setG Z c (setG (Z c) k (elDone (Z c k) d)) c = setG (Z c) k (elDone (Z c k) d) by unfold setG; rw [if_pos rfl]]
    have hr := h.row c hc
    rw [hv] at hr ⊢
    exact own_done hr hk d
  · rw [show setG Z e (setG (Z e) k (elDone (Z e k) d)) c = Z c by unfold setG; rw [if_neg ece]]
    exact ownM_block (h.row c hc) (fun k hk => o.block k (fun e1 => h.rr e c g he hc (Ne.symm ece) hg (e1 ▸ hk)))
theorem OnSt.ptr {e : Nat} (h : OnSt w0 bs bw b N w σ v n Z) (he : e < 2) : w.cell? ⟨bs, e, none⟩ = some (.pointer (some ⟨b e, 0, none⟩)) := by obtain ⟨S, h⟩ := h; exact h.arr.at e he
theorem OnSt.wayc {e : Nat} (h : OnSt w0 bs bw b N w σ v n Z) (he : e < 2) : w.cell? ⟨bw, e, none⟩ = some (v e) := by obtain ⟨S, h⟩ := h; exact h.way.at e he
theorem OnSt.wayf (h : OnSt w0 bs bw b N w σ v n Z) (e : Nat) : w.frozen? ⟨bw, e, none⟩ = false := by obtain ⟨S, h⟩ := h; exact frozen_of_row w bw e _ _ h.way
theorem OnSt.row {e : Nat} (h : OnSt w0 bs bw b N w σ v n Z) (he : e < 2) : w.ownsRow w0.heap.size 46 5 (v e) (n e) (elX (Z e) (n e)) := by obtain ⟨S, h⟩ := h; exact h.row e he
theorem OnSt.blt (h : OnSt w0 bs bw b N w σ v n Z) : bs < w.heap.size ∧ bw < w.heap.size := by obtain ⟨S, h⟩ := h; exact ⟨h.arr.lt, h.way.lt⟩
end
end Go.Proofs.Ytbkbcfimpaolmaa
