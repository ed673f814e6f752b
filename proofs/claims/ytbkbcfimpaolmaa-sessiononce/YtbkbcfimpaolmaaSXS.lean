/-
  Own text. What SessionEpochs asks of the slots told.
-/
import Derived.Test.YtbkbcfimpaolmaaSXP
namespace Go.Proofs.Ytbkbcfimpaolmaa
open Go.RowKit Go.Proofs
set_option maxRecDepth 100000
def nowF (now after : Int) : Int := if 0 < after ∧ after < 1000000 then now + after else now
theorem exec_sub1 {a : Act} {o : Oper} {w : World} {x y : Operand} {k : Nat} (ho : o.op = .binOp .sub 3 x y 3) (hx : a.eval x = .int .i64 (k : Int)) (hy : a.eval y = .int .i64 1) (hk : 0 < k) (hk3 : k < 9) : (execOp a.eval o).run Try.prog w = .ok (.value (.int .i64 ((k - 1 : Nat) : Int))) w := by
  have h := exec_subI (w := w) ho hx hy (by omega) (by omega)
  rw [h, show ((k - 1 : Nat) : Int) = (k : Int) - 1 by omega]
theorem below_Gc7 {u7 u8 : World} (h : u7.heap.size ≤ u8.heap.size) (w w' : World) (hb : Below u7.heap.size u7 w) (ht : Touch (fun k => u8.heap.size ≤ k ∨ k ∈ (([] : List (Nat × Cont)).map (·.1))) w w') : Below u7.heap.size u7 w' :=
  hb.trans ⟨ht.os, ht.tape, ht.output, ht.size, fun k hk => ht.block k (by have := hb.size; omega) (fun e => e.elim (fun e => by omega) (fun e => by simp at e))⟩
theorem sealS_c (σ : Ses) (now : Int) : (sealS σ now).c = σ.c := by unfold sealS; split <;> rfl
theorem openS_c (σ : Ses) (now x c : Int) (box : ByteArray) : (openS σ now x c box).2.c = σ.c := by
  unfold openS openAt
  split
  · rfl
  · split
    · rfl
    · split <;> rfl
theorem own_told9 {w : World} {B n : Nat} {v : Value} {xs : List Value} (h : w.ownsRow B 71 8 v n xs) : ∃ p cap, v = .slice p n cap ∧ (0 < n → ∃ g, p = some ⟨g, 0, none⟩ ∧ g < w.heap.size ∧ ∀ i, i < n * 8 → w.cell? ⟨g, i, none⟩ = xs[i]?) := by
  obtain ⟨h1, h2⟩ := h
  rcases h2 with ⟨rfl, rfl⟩ | ⟨g, cap, cur, rfl, _, hg, hn, _, hs, ht⟩
  · exact ⟨none, 0, rfl, fun h => by omega⟩
  · refine ⟨_, cap, rfl, fun _ => ⟨g, rfl, (Array.getElem?_eq_some_iff.1 hg).1, fun i hi => ?_⟩⟩
    rw [cell_of_row w g i _ _ _ hg, ← ht, List.getElem?_take, if_pos hi, Array.getElem?_toList]
/-- The slots told, in a row at g: what SessionEpochs reads of them. -/
def ToldAt (u : World) (p : Option Addr) (m : Nat) (W E C B : Nat → Int) : Prop := 0 < m → ∃ g, p = some ⟨g, 0, none⟩ ∧ g < u.heap.size ∧ ∀ k, k < m → u.cell? ⟨g, 8 * k + 0, none⟩ = some (.int .i64 (W k)) ∧ u.cell? ⟨g, 8 * k + 1, none⟩ = some (.int .i64 (E k)) ∧ u.cell? ⟨g, 8 * k + 2, none⟩ = some (.int .u32 (C k)) ∧ u.cell? ⟨g, 8 * k + 5, none⟩ = some (.int .i64 (B k))
theorem slots_told {w u : World} {sb M : Nat} {σ : Ses} (h : SeSt w sb (fun _ => False) u σ) (ok : SesOk M σ) (od : Ord σ) : Calls Try.prog 19 #[.pointer (some ⟨sb, 0, none⟩)] u fun e u' => ∃ (p : Option Addr) (m cp : Nat) (W E C B : Nat → Int), e = .returned (.slice p m cp) ∧ m ≤ 3 ∧ (∀ k, k < m → 1 ≤ E k ∧ E k ≤ σ.c) ∧ (∀ k, 0 < k → k < m → W (k - 1) < W k ∧ E (k - 1) < E k ∧ ¬ C k = C (k - 1)) ∧ ToldAt u' p m W E C B ∧ SeSt w sb (fun _ => False) u' σ := by
  refine (h.reads (fun S hS => (Slots_run hS).mono (fun e w' ⟨vo, a, b, c⟩ => ⟨(⟨vo, a, b⟩ : ∃ vo, e = .returned vo ∧ w'.ownsRow u.heap.size 71 8 vo (slotsL σ.K 3).length (toldX σ.K (slotsL σ.K 3))), c⟩))).mono ?_
  rintro e u' ⟨⟨vo, rfl, ho⟩, hb⟩
  obtain ⟨p, cp, rfl, hp⟩ := own_told9 ho
  obtain ⟨s1, s2⟩ := slots_spec σ.K 3
  have hm := slotsL_len σ.K 3
  have ht := told_at σ.K (slotsL σ.K 3)
  generalize slotsL σ.K 3 = l at *
  refine ⟨p, l.length, cp, fun k => ((l.getD k 0 : Nat) : Int), fun k => (σ.K (l.getD k 0)).ep, fun k => (σ.K (l.getD k 0)).loc, fun k => (σ.K (l.getD k 0)).born, rfl, hm, fun k hk => ?_, fun k h0 hk => ?_, fun h0 => ?_, h.below hb⟩
  · obtain ⟨a, b⟩ := s1 k hk
    have := ok.ok _ a b
    exact ⟨this.ep0, this.ep1⟩
  · obtain ⟨a, b⟩ := s1 k hk
    obtain ⟨a', b'⟩ := s1 (k - 1) (by omega)
    have hlt := s2 (k - 1) (by omega)
    rw [show k - 1 + 1 = k by omega] at hlt
    refine ⟨Int.ofNat_lt.2 hlt, od _ _ hlt a b' b, fun e => ?_⟩
    have := ok.one _ _ a a' b b' e
    omega
  · obtain ⟨g, rfl, hg, hc⟩ := hp h0
    refine ⟨g, rfl, hg, fun k hk => ?_⟩
    refine ⟨?_, ?_, ?_, ?_⟩
    · rw [hc _ (by omega), ht k 0 hk (by omega)]; rfl
    · rw [hc _ (by omega), ht k 1 hk (by omega)]; rfl
    · rw [hc _ (by omega), ht k 2 hk (by omega)]; rfl
    · rw [hc _ (by omega), ht k 5 hk (by omega)]; rfl
end Go.Proofs.Ytbkbcfimpaolmaa
