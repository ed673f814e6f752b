/-
  Own text. The numbers of SessionOnce: a counter that came opens no more; the text that opens is the text that was sealed.
-/
import Derived.Test.YtbkbcfimpaolmaaSXV
namespace Go.Proofs.Ytbkbcfimpaolmaa
open Go.RowKit Go.Proofs
set_option maxRecDepth 100000
def cameK (k : Kp) (c : Int) : Prop := ∃ i, i < k.n ∧ k.s i = c
theorem came_took (k : Kp) (c : Int) : cameK (kpTook k c) c := ⟨k.n, Nat.lt_succ_self _, by show cat k.n k.s (fun _ => c) k.n = c; unfold cat; rw [if_neg (by omega)]⟩
theorem came_more {k : Kp} {d : Int} (h : cameK k d) (c : Int) : cameK (kpTook k c) d := by
  obtain ⟨i, hi, e⟩ := h
  exact ⟨i, Nat.lt_succ_of_lt hi, by show cat k.n k.s (fun _ => c) i = d; unfold cat; rw [if_pos hi]; exact e⟩
theorem came_sent {k : Kp} {d : Int} (h : cameK k d) : cameK (kpSent k) d := h
theorem came_old {k : Kp} {c : Int} (h : cameK k c) : freshD L64 8192 k.n k.s c = false := by
  obtain ⟨i, hi, e⟩ := h
  cases hf : freshD L64 8192 k.n k.s c
  · rfl
  · exact absurd e ((fresh_iff.1 hf).2.1 i hi)
theorem came_shut {σ : Ses} {i : Nat} {now c : Int} (h : cameK (σ.K i) c) : openE σ now i c ≠ 0 := by
  unfold openE
  rw [came_old h]
  split
  · decide
  · rw [if_pos (.inr rfl)]; decide
/-- What Open answers: an error and no text, or the text out of the slot of that index. -/
theorem open_ends (σ : Ses) (now x c : Int) (box : ByteArray) : ((openS σ now x c box).1.2.2 ≠ 0 ∧ (openS σ now x c box).1.1 = ByteArray.empty ∧ (openS σ now x c box).2 = tellS σ now) ∨
    ((openS σ now x c box).1.2.2 = 0 ∧ ∃ i, i < 3 ∧ (σ.K i).ep ≠ 0 ∧ (σ.K i).loc = x ∧ ¬ cameK (σ.K i) c ∧ (openT (σ.K i).kr (nonN c) box ByteArray.empty).2 = 0 ∧ (openS σ now x c box).1.1 = (openT (σ.K i).kr (nonN c) box ByteArray.empty).1) := by
  rcases at_cases σ.K x with hA | ⟨i, hi, hA, he, hx⟩
  · rw [openS_no hA]; exact .inl ⟨show (15 : Int) ≠ 0 by decide, rfl, rfl⟩
  · rw [openS_at hA]
    unfold openAt
    by_cases h1 : openE σ now i c ≠ 0
    · rw [if_pos h1]; exact .inl ⟨h1, rfl, rfl⟩
    · rw [if_neg h1]
      by_cases h2 : (openT (σ.K i).kr (nonN c) box ByteArray.empty).2 ≠ 0
      · rw [if_pos h2]; exact .inl ⟨h2, rfl, rfl⟩
      · rw [if_neg h2]; exact .inr ⟨rfl, i, hi, he, hx, fun hc => h1 (came_shut hc), Decidable.not_not.1 h2, rfl⟩
/-- A keypair of the law, by its Local: pair(L) where L is small, else the mirror of pair(L - 1000). -/
def onKR (L : Int) : Nat → Int := if L < 1000 then pkr L else pks (L - 1000)
def onKS (L : Int) : Nat → Int := if L < 1000 then pks L else pkr (L - 1000)
def onFar (L : Int) : Int := if L < 1000 then L + 1000 else L - 1000
def onNum (L : Int) : Int := if L < 1000 then L else L - 1000
theorem on_turn {L : Int} (h0 : 0 ≤ L) (h1 : L < 1200) : onKR (onFar L) = onKS L := by
  unfold onKR onKS onFar
  by_cases h : L < 1000
  · rw [if_pos h, if_pos h, if_neg (by omega), show L + 1000 - 1000 = L by omega]
  · rw [if_neg h, if_neg h, if_pos (by omega)]
/-- What holds of every keypair ahead of step i; D: which counters of which Local were opened. -/
structure OnK (i : Int) (D : Int → Int → Prop) (k : Kp) : Prop where
  ks : k.ks = onKS k.loc
  kr : k.kr = onKR k.loc
  far : k.far = onFar k.loc
  l0 : 0 ≤ k.loc
  l1 : k.loc < 1200
  num : onNum k.loc < i
  done : ∀ c, D k.loc c → cameK k c
theorem OnK.sent {i : Int} {D : Int → Int → Prop} {k : Kp} (h : OnK i D k) : OnK i D (kpSent k) := ⟨h.ks, h.kr, h.far, h.l0, h.l1, h.num, fun c hc => came_sent (h.done c hc)⟩
theorem OnK.took {i : Int} {D : Int → Int → Prop} {k : Kp} (h : OnK i D k) (d : Int) : OnK i (fun L c => D L c ∨ L = k.loc ∧ c = d) (kpTook k d) :=
  ⟨h.ks, h.kr, h.far, h.l0, h.l1, h.num, fun c hc => hc.elim (fun e => came_more (h.done c e) d) (fun e => by rw [e.2]; exact came_took k d)⟩
theorem OnK.other {i : Int} {D : Int → Int → Prop} {k : Kp} (h : OnK i D k) {x d : Int} (hx : k.loc ≠ x) : OnK i (fun L c => D L c ∨ L = x ∧ c = d) k :=
  ⟨h.ks, h.kr, h.far, h.l0, h.l1, h.num, fun c hc => hc.elim (h.done c) (fun e => absurd e.1 hx)⟩
theorem OnK.next {i : Int} {D : Int → Int → Prop} {k : Kp} (h : OnK i D k) : OnK (i + 1) D k := ⟨h.ks, h.kr, h.far, h.l0, h.l1, by have := h.num; omega, h.done⟩
theorem onk_pair {i : Int} {D : Int → Int → Prop} (h0 : 0 ≤ i) (h1 : i < 200) (hD : ∀ L c, D L c → onNum L < i) (ep born : Int) (first : Bool) : OnK (i + 1) D (kpNew (pks i) (pkr i) (ploc i) (pfar i) ep born first) := by
  have e1 : ploc i = i := by unfold ploc; omega
  have e2 : pfar i = i + 1000 := by unfold pfar; omega
  rw [e1, e2]
  refine ⟨?_, ?_, ?_, h0, ?_, ?_, fun c hc => ?_⟩
  · show pks i = onKS i; unfold onKS; rw [if_pos (by omega)]
  · show pkr i = onKR i; unfold onKR; rw [if_pos (by omega)]
  · show i + 1000 = onFar i; unfold onFar; rw [if_pos (by omega)]
  · show i < 1200; omega
  · show onNum i < i + 1; unfold onNum; rw [if_pos (by omega)]; omega
  · have : onNum i < i := hD i c hc
    unfold onNum at this; rw [if_pos (by omega)] at this; omega
theorem onk_mirror {i : Int} {D : Int → Int → Prop} (h0 : 0 ≤ i) (h1 : i < 200) (hD : ∀ L c, D L c → onNum L < i) (ep born : Int) (first : Bool) : OnK (i + 1) D (kpNew (pkr i) (pks i) (pfar i) (ploc i) ep born first) := by
  have e1 : ploc i = i := by unfold ploc; omega
  have e2 : pfar i = i + 1000 := by unfold pfar; omega
  have e3 : i + 1000 - 1000 = i := by omega
  rw [e1, e2]
  refine ⟨?_, ?_, ?_, ?_, ?_, ?_, fun c hc => ?_⟩
  · show pkr i = onKS (i + 1000); unfold onKS; rw [if_neg (by omega), e3]
  · show pks i = onKR (i + 1000); unfold onKR; rw [if_neg (by omega), e3]
  · show i = onFar (i + 1000); unfold onFar; rw [if_neg (by omega), e3]
  · show 0 ≤ i + 1000; omega
  · show i + 1000 < 1200; omega
  · show onNum (i + 1000) < i + 1; unfold onNum; rw [if_neg (by omega)]; omega
  · have : onNum (i + 1000) < i := hD _ c hc
    unfold onNum at this; rw [if_neg (by omega)] at this; omega
theorem on_new {i : Int} {D : Int → Int → Prop} {K : Nat → Kp} (h : AllK (OnK i D) K) {L : Int} (hL : onNum L = i) : atF K L = -1 := by
  rcases at_cases K L with hA | ⟨j, hj, _, he, hx⟩
  · exact hA
  · have := (h j hj he).num
    rw [hx] at this; omega
end Go.Proofs.Ytbkbcfimpaolmaa
