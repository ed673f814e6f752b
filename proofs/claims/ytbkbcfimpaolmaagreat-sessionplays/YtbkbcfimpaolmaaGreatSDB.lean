/-
  Own text. A session of the program and one of the document, side by side.
-/
import Derived.Test.YtbkbcfimpaolmaaGreatSDP
namespace Go.Proofs.YtbkbcfimpaolmaaGreat
open Go.RowKit Go.Proofs
set_option maxRecDepth 100000
def Kept (N : Nat → Prop) (w w' : World) : Prop := w.heap.size ≤ w'.heap.size ∧ ∀ k, k < w.heap.size → N k → w'.heap[k]? = w.heap[k]?
structure BoAt (w0 : World) (sb rb : Nat) (N : Nat → Prop) (w : World) (σ τ : Ses) (S T : Nat → Prop) : Prop where
  code : SesAt w sb σ S
  doc : SesD w rb τ T
  s0 : ∀ k, S k → w0.heap.size ≤ k ∧ ¬ N k ∧ ¬ T k
  t0 : ∀ k, T k → w0.heap.size ≤ k ∧ ¬ N k
  bel : Below w0.heap.size w0 w
/-- Between calls: both sessions lie above w0, apart from each other and from the blocks N. -/
def BoSt (w0 : World) (sb rb : Nat) (N : Nat → Prop) (w : World) (σ τ : Ses) : Prop := ∃ S T, BoAt w0 sb rb N w σ τ S T
section
variable {w0 w w' : World} {sb rb : Nat} {N N' : Nat → Prop} {σ τ σ' τ' : Ses} {S T : Nat → Prop}
theorem BoAt.same (h : BoAt w0 sb rb N w σ τ S T) (hz : w.heap.size ≤ w'.heap.size) (hb : ∀ k, S k ∨ T k → w'.heap[k]? = w.heap[k]?) (hB : Below w0.heap.size w0 w') : BoAt w0 sb rb N w' σ τ S T :=
  ⟨h.code.same (fun k hk => hb k (.inl hk)), h.doc.same hz (fun k hk => hb k (.inr hk)), h.s0, h.t0, hB⟩
theorem BoAt.lt (h : BoAt w0 sb rb N w σ τ S T) : ∀ k, S k ∨ T k → k < w.heap.size := fun k hk => hk.elim (h.code.lt k) (h.doc.lt k)
theorem BoSt.bel (h : BoSt w0 sb rb N w σ τ) : Below w0.heap.size w0 w := by obtain ⟨S, T, h⟩ := h; exact h.bel
theorem BoSt.size (h : BoSt w0 sb rb N w σ τ) : w0.heap.size ≤ w.heap.size := h.bel.size
theorem BoSt.below (h : BoSt w0 sb rb N w σ τ) (hb : Below w.heap.size w w') : BoSt w0 sb rb N w' σ τ := by
  obtain ⟨S, T, h⟩ := h
  exact ⟨S, T, h.same hb.size (fun k hk => hb.block k (h.lt k hk)) (h.bel.trans (hb.mono h.bel.size))⟩
theorem BoSt.sub (h : BoSt w0 sb rb N w σ τ) (hN : ∀ k, N' k → N k) : BoSt w0 sb rb N' w σ τ := by
  obtain ⟨S, T, h⟩ := h
  exact ⟨S, T, h.code, h.doc, fun k hk => ⟨(h.s0 k hk).1, fun e => (h.s0 k hk).2.1 (hN k e), (h.s0 k hk).2.2⟩, fun k hk => ⟨(h.t0 k hk).1, fun e => (h.t0 k hk).2 (hN k e)⟩, h.bel⟩
theorem BoSt.keep {g : Nat} (h : BoSt w0 sb rb N w σ τ) (hg : w.heap.size ≤ g) (hb : Below w.heap.size w w') : BoSt w0 sb rb (fun k => N k ∨ k = g) w' σ τ := by
  obtain ⟨S, T, h⟩ := h
  have h' := h.same (w' := w') hb.size (fun k hk => hb.block k (h.lt k hk)) (h.bel.trans (hb.mono h.bel.size))
  exact ⟨S, T, h'.code, h'.doc, fun k hk => ⟨(h.s0 k hk).1, fun e => e.elim (h.s0 k hk).2.1 (fun e => by have := h.lt k (.inl hk); omega), (h.s0 k hk).2.2⟩, fun k hk => ⟨(h.t0 k hk).1, fun e => e.elim (h.t0 k hk).2 (fun e => by have := h.lt k (.inr hk); omega)⟩, h'.bel⟩
theorem BoSt.only {g : Nat} (h : BoSt w0 sb rb N w σ τ) (hN : N g) (o : Only g w w') (hg : w0.heap.size ≤ g) : BoSt w0 sb rb N w' σ τ := by
  obtain ⟨S, T, h⟩ := h
  exact ⟨S, T, h.same (by rw [o.size]; exact Nat.le_refl _) (fun k hk => o.block k (fun e => hk.elim (fun hk => (h.s0 k hk).2.1 (e ▸ hN)) (fun hk => (h.t0 k hk).2 (e ▸ hN)))) (h.bel.trans (o.below hg))⟩
theorem BoAt.goC (h : BoAt w0 sb rb N w σ τ S T) (hN : ∀ k, N k → k < w.heap.size) (hG : Goes SesAt w sb S σ' w') : (∃ S', BoAt w0 sb rb N w' σ' τ S' T) ∧ Kept N w w' := by
  obtain ⟨S', h1, hT, h2⟩ := hG
  have hB : Below w0.heap.size w0 w' := h.bel.trans ⟨hT.os, hT.tape, hT.output, hT.size, fun k hk => hT.block k (Nat.lt_of_lt_of_le hk h.bel.size) (fun hs => by have := (h.s0 k hs).1; omega)⟩
  have hd : SesD w' rb τ T := h.doc.same hT.size (fun k hk => hT.block k (h.doc.lt k hk) (fun hs => (h.s0 k hs).2.2 hk))
  have hz := h.bel.size
  refine ⟨⟨S', h1, hd, fun k hk => ?_, h.t0, hB⟩, ⟨hT.size, fun k hk hn => hT.block k hk (fun hs => (h.s0 k hs).2.1 hn)⟩⟩
  rcases h2 k hk with hs | hs
  · exact h.s0 k hs
  · exact ⟨by omega, fun hn => by have := hN k hn; omega, fun ht => by have := h.doc.lt k ht; omega⟩
theorem BoAt.goD (h : BoAt w0 sb rb N w σ τ S T) (hN : ∀ k, N k → k < w.heap.size) (hG : Goes SesD w rb T τ' w') : BoSt w0 sb rb N w' σ τ' ∧ Kept N w w' := by
  obtain ⟨T', h1, hT, h2⟩ := hG
  have hB : Below w0.heap.size w0 w' := h.bel.trans ⟨hT.os, hT.tape, hT.output, hT.size, fun k hk => hT.block k (Nat.lt_of_lt_of_le hk h.bel.size) (fun hs => by have := (h.t0 k hs).1; omega)⟩
  have hz := h.bel.size
  refine ⟨⟨S, T', h.code.same (fun k hk => hT.block k (h.code.lt k hk) (h.s0 k hk).2.2), h1, fun k hk => ⟨(h.s0 k hk).1, (h.s0 k hk).2.1, fun ht => ?_⟩, fun k hk => ?_, hB⟩, hT.size, fun k hk hn => hT.block k hk (fun hs => (h.t0 k hs).2 hn)⟩
  · rcases h2 k ht with hs | hs
    · exact (h.s0 k hk).2.2 hs
    · have := h.code.lt k hk; omega
  · rcases h2 k hk with hs | hs
    · exact h.t0 k hs
    · exact ⟨by omega, fun hn => by have := hN k hn; omega⟩
theorem BoSt.callC {f : FuncId} {args : Array Value} {P : Ending → World → Prop} (h : BoSt w0 sb rb N w σ τ) (hN : ∀ k, N k → k < w.heap.size) (hC : ∀ S, SesAt w sb σ S → Calls Tryz.prog f args w fun en w' => P en w' ∧ Goes SesAt w sb S σ' w') : Calls Tryz.prog f args w fun en w' => P en w' ∧ BoSt w0 sb rb N w' σ' τ ∧ Kept N w w' := by
  obtain ⟨S, T, h⟩ := h
  exact (hC S h.code).mono (fun en w' ⟨p, g⟩ => by
    obtain ⟨⟨S', q⟩, k⟩ := h.goC hN g
    exact ⟨p, ⟨S', T, q⟩, k⟩)
theorem BoSt.callD {f : FuncId} {args : Array Value} {P : Ending → World → Prop} (h : BoSt w0 sb rb N w σ τ) (hN : ∀ k, N k → k < w.heap.size) (hC : ∀ T, SesD w rb τ T → Calls Tryz.prog f args w fun en w' => P en w' ∧ Goes SesD w rb T τ' w') : Calls Tryz.prog f args w fun en w' => P en w' ∧ BoSt w0 sb rb N w' σ τ' ∧ Kept N w w' := by
  obtain ⟨S, T, h⟩ := h
  exact (hC T h.doc).mono (fun en w' ⟨p, g⟩ => ⟨p, h.goD hN g⟩)
theorem BoSt.readC {f : FuncId} {args : Array Value} {P : Ending → World → Prop} (h : BoSt w0 sb rb N w σ τ) (hC : ∀ S, SesAt w sb σ S → Calls Tryz.prog f args w P) : Calls Tryz.prog f args w P := by
  obtain ⟨S, T, h⟩ := h
  exact hC S h.code
theorem BoSt.readD {f : FuncId} {args : Array Value} {P : Ending → World → Prop} (h : BoSt w0 sb rb N w σ τ) (hC : ∀ T, SesD w rb τ T → Calls Tryz.prog f args w P) : Calls Tryz.prog f args w P := by
  obtain ⟨S, T, h⟩ := h
  exact hC T h.doc
theorem BoSt.new {u : World} (hB : Below w0.heap.size w0 w) (h : SesAt w' sb ses0 (fun k => k = sb)) (hb : w.heap.size ≤ sb) (hb2 : Below w.heap.size w w') (hr : SesD u rb ses0 (fun k => k = rb)) (hrb : w'.heap.size ≤ rb) (hb3 : Below w'.heap.size w' u) : BoSt w0 sb rb (fun _ => False) u ses0 ses0 := by
  have z1 := hB.size
  have z2 := hb2.size
  have l1 := h.lt sb rfl
  exact ⟨_, _, h.below hb3, hr, fun k hk => ⟨by omega, fun e => e, fun e => by omega⟩, fun k hk => ⟨by omega, fun e => e⟩, (hB.trans (hb2.mono z1)).trans (hb3.mono (by omega))⟩
end
-- Close and Expire of the document
theorem rClose_run {w : World} {b : Nat} {σ : Ses} {S : Nat → Prop} (h : SesD w b σ S) :
    Calls Tryz.prog 20 #[.pointer (some ⟨b, 0, none⟩)] w fun e w' => ∃ vo, e = .returned vo ∧ w'.ownsRow w.heap.size 28 1 vo (dropL (fun _ => true) σ.K 3).length (u32X (dropL (fun _ => true) σ.K 3)) ∧ Goes SesD w b S (closeS σ) w' := by
  obtain ⟨R, U, h, hW, hK, rfl⟩ := h
  obtain ⟨t, c, K⟩ := σ
  simp only at h hK
  subst hK
  refine (rcloseR h).mono ?_
  rintro e w' ⟨vo, rfl, hO, h1, hT⟩
  exact ⟨vo, rfl, hO, goes_dropD hW h1 hT⟩
theorem rExpire_run {w : World} {b M : Nat} {σ : Ses} {S : Nat → Prop} (now : Int) (h : SesD w b σ S) (ok : SesOk M σ) (hnow : now ≤ 9223372036854775807) :
    Calls Tryz.prog 18 #[.pointer (some ⟨b, 0, none⟩), .int .i64 now] w fun e w' => ∃ vo, e = .returned vo ∧ w'.ownsRow w.heap.size 28 1 vo (dropL (oldF (max σ.t now)) σ.K 3).length (u32X (dropL (oldF (max σ.t now)) σ.K 3)) ∧ Goes SesD w b S (expireS σ now) w' := by
  obtain ⟨R, U, h, hW, hK, rfl⟩ := h
  obtain ⟨t, c, K⟩ := σ
  simp only at h hK
  subst hK
  have ht1 : t ≤ 9223372036854775807 := ok.t1
  refine (rexpireR now h (Hid.mk (fun i hi he => ⟨(ok.ok i hi he).b0, by have := (ok.ok i hi he).b1; simp only at this; omega⟩)) (by omega)).mono ?_
  rintro e w' ⟨vo, rfl, hO, h1, hT⟩
  exact ⟨vo, rfl, hO, goes_dropD hW h1 hT⟩
-- how late it is
theorem put_t (σ : Ses) (now : Int) (ks kr : Nat → Int) (loc far : Int) (f : Bool) : (putS σ now ks kr loc far f).t = max σ.t now := by unfold putS; split <;> rfl
theorem seal_t (σ : Ses) (now : Int) : (sealS σ now).t = max σ.t now := by unfold sealS; split <;> rfl
theorem open_t (σ : Ses) (now x c : Int) (box : ByteArray) : (openS σ now x c box).2.t = max σ.t now := by
  unfold openS
  split
  · rfl
  · unfold openAt
    split
    · rfl
    · split <;> rfl
end Go.Proofs.YtbkbcfimpaolmaaGreat
