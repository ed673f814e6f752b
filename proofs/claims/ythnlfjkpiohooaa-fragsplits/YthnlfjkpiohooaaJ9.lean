/-
  Own text. The pieces of a packet that was cut: each may be and fits; together they are the packet.
-/
import Derived.Test.YthnlfjkpiohooaaJ8
import Derived.Test.YthnlfjkpiohooaaJ3
import Derived.Test.YthnlfjkpiohooaaRows
import Derived.ChangeSlices
import Derived.Deep.Slices
import Derived.Deep.SlicePairs
import Derived.ChangeSame
import Derived.OpenShut
import Derived.ProofKit
import Derived.SizedLaws
import Derived.Stop.Joined
namespace Go.Proofs.Ythnlfjkpiohooaa
open Go.RowKit Go.Proofs
set_option maxRecDepth 100000
theorem rgt_piece {P : Pk} {id : Int} {R a : Nat} (h : rgtP P = true) (h1 : 0 ≤ id) (h2 : id ≤ 4294967295) (ho : P.off + (a : Int) ≤ 65528) (h8 : a % 8 = 0) : rgtP (pieceAt P id R a) = true := by
  have hh := rgt_head h h1 h2
  have ho0 := head_off P id
  obtain ⟨a1, a2, a3, a4, a5, a6, a7, a8, a9⟩ := rgtP_iff.1 hh
  rw [ho0] at a7 a8
  refine rgtP_iff.2 ⟨a1, a2, a3, a4, a5, a6, ?_, ?_, ?_⟩
  · show 0 ≤ P.off + (a : Int) ∧ P.off + (a : Int) ≤ 65528
    omega
  · show (P.off + (a : Int)) % 8 = 0
    omega
  · show (if (headOf P id).sv = true then rgt6 (pieceAt P id R a) else rgt4 (pieceAt P id R a)) = true
    split
    · rename_i hs
      rw [if_pos hs] at a9
      obtain ⟨b1, b2, b3, b4, b5, b6, _⟩ := rgt6_iff.1 a9
      refine rgt6_iff.2 ⟨b1, b2, b3, b4, b5, b6, .inl ?_⟩
      show (headOf P id).cut = true
      unfold headOf at hs ⊢
      by_cases hv : P.sv = true
      · rw [if_pos hv]
      · rw [if_neg hv] at hs
        exact absurd hs hv
    · rename_i hs
      rw [if_neg hs] at a9
      exact a9
theorem piece_head (P : Pk) (id : Int) (R a : Nat) : headP (pieceAt P id R a) = headP (headOf P id) := rfl
theorem piece_pay (P : Pk) (id : Int) (R a : Nat) : (pieceAt P id R a).pay.size = min (a + R) P.pay.size - a := cutP_size _ _ _ (Nat.min_le_right _ _)
/-- What it means that a whole packet is cut into m pieces of R bytes. -/
structure CutOf (P : Pk) (id : Int) (R m : Nat) : Prop where
  r : rgtP P = true
  c : P.cut = false
  o : P.off = 0
  mo : P.more = false
  i0 : 0 ≤ id
  i1 : id ≤ 4294967295
  R8 : R % 8 = 0
  R0 : 0 < R
  mm : m = (P.pay.size + R - 1) / R
  f : fitP P = true
  L0 : 0 < P.pay.size
  L1 : R * (m - 1) ≤ 65528
def pcs (P : Pk) (id : Int) (R k : Nat) : Pk := pieceAt P id R (R * k)
theorem fit_pay {P : Pk} (h : fitP P = true) : P.pay.size ≤ 65535 := by
  unfold fitP at h
  split at h
  · rename_i hs
    have := of_decide_eq_true h
    unfold headP at this
    rw [if_pos hs] at this
    omega
  · have := of_decide_eq_true h
    omega
section
variable {P : Pk} {id : Int} {R m : Nat}
theorem CutOf.lt (h : CutOf P id R m) {k : Nat} : k < m ↔ R * k < P.pay.size := by
  rw [h.mm]
  exact (many_iff h.R0).symm
theorem CutOf.next (h : CutOf P id R m) {k : Nat} : k + 1 < m ↔ R * k + R < P.pay.size := by
  rw [h.lt, Nat.mul_succ]
theorem CutOf.pos (h : CutOf P id R m) : 0 < m := h.lt.2 (by rw [Nat.mul_zero]; exact h.L0)
theorem CutOf.off (h : CutOf P id R m) (k : Nat) : (pcs P id R k).off = ((R * k : Nat) : Int) := by
  show P.off + ((R * k : Nat) : Int) = _
  rw [h.o, Int.zero_add]
theorem CutOf.more (h : CutOf P id R m) (k : Nat) : (pcs P id R k).more = decide (k + 1 < m) := by
  show (P.more || decide (R * k + R < P.pay.size)) = _
  rw [h.mo, Bool.false_or]
  exact decide_eq_decide.2 h.next.symm
theorem CutOf.pay (_h : CutOf P id R m) (k : Nat) : (pcs P id R k).pay.size = min (R * k + R) P.pay.size - R * k := piece_pay P id R (R * k)
theorem CutOf.en (h : CutOf P id R m) {k : Nat} (hk : k < m) : enP (pcs P id R k) = ((min (R * k + R) P.pay.size : Nat) : Int) := by
  unfold enP
  rw [h.off, h.pay]
  have := h.lt.1 hk
  omega
theorem CutOf.rgt (h : CutOf P id R m) {k : Nat} (hk : k < m) : rgtP (pcs P id R k) = true := by
  have h2 : R * k ≤ R * (m - 1) := Nat.mul_le_mul_left _ (by omega)
  have h3 := h.L1
  refine rgt_piece h.r h.i0 h.i1 (by rw [h.o]; omega) ?_
  rw [Nat.mul_mod, h.R8, Nat.zero_mul]
theorem CutOf.may (h : CutOf P id R m) {k : Nat} (hk : k < m) : mayL (pcs P id R k) = true := by
  have h1 := h.lt.1 hk
  have h2 := fit_pay h.f
  have h3 := h.R0
  unfold mayL
  rw [h.en hk, h.more, h.pay]
  simp only [Bool.and_eq_true, Bool.or_eq_true, Bool.not_eq_true', decide_eq_true_eq, decide_eq_false_iff_not]
  refine ⟨⟨by omega, ?_⟩, by omega⟩
  by_cases h4 : k + 1 < m
  · refine .inr ?_
    have h5 := h.next.1 h4
    rw [Nat.min_eq_left (by omega), Nat.add_sub_cancel_left]
    exact h.R8
  · exact .inl h4
theorem CutOf.pc (h : CutOf P id R m) {k : Nat} (hk : k < m) : PcOk (pcs P id R k) := PcOk_of (h.rgt hk) (h.may hk)
theorem CutOf.notWhole (h : CutOf P id R m) (hm : 2 ≤ m) {k : Nat} : wholeQ (pcs P id R k) = false := by
  unfold wholeQ
  rw [h.off, h.more]
  have h3 := h.R0
  by_cases h0 : k = 0
  · subst h0
    simp
    omega
  · have : ¬ (((R * k : Nat) : Int) = 0) := by
      have : 0 < R * k := Nat.mul_pos h3 (by omega)
      omega
    rw [decide_eq_false this]
    rfl
theorem CutOf.mul_lt (_h : CutOf P id R m) {i k : Nat} (hik : i < k) : R * i + R ≤ R * k := by
  rw [← Nat.mul_succ]
  exact Nat.mul_le_mul_left _ hik
theorem CutOf.mates (h : CutOf P id R m) {i k : Nat} (hi : i < m) (hk : k < m) (hne : i ≠ k) : Mates (pcs P id R i) (pcs P id R k) := by
  have key : ∀ {i k : Nat}, i < m → k < m → i < k → Mates (pcs P id R i) (pcs P id R k) := by
    intro i k hi hk hik
    have h1 := h.mul_lt hik
    have h2 := h.lt.1 hk
    have h3 := h.lt.1 hi
    unfold Mates
    rw [h.en hi, h.en hk, h.off, h.off, h.more, h.more]
    refine ⟨.inl (by omega), fun e => ?_, fun e => ⟨?_, by omega⟩⟩
    · have := of_decide_eq_false e
      omega
    · exact decide_eq_true (by omega)
  rcases Nat.lt_or_gt_of_ne hne with h1 | h1
  · exact key hi hk h1
  · exact (key hk hi h1).symm
theorem CutOf.inj (h : CutOf P id R m) {i k : Nat} (e : (pcs P id R i).off = (pcs P id R k).off) : i = k := by
  rw [h.off, h.off] at e
  exact Nat.eq_of_mul_eq_mul_left h.R0 (by omega)
theorem CutOf.okl (h : CutOf P id R m) {ks : List Nat} (hn : ks.Nodup) (hk : ∀ k ∈ ks, k < m) : OkL (ks.map (pcs P id R)) := by
  refine ⟨fun Q hQ => ?_, ?_⟩
  · obtain ⟨k, hk1, rfl⟩ := List.mem_map.1 hQ
    exact h.pc (hk k hk1)
  · rw [List.pairwise_map]
    exact List.Pairwise.imp_of_mem (fun {i k} hi hj hne => h.mates (hk i hi) (hk k hj) hne) hn
theorem CutOf.same (h : CutOf P id R m) {ks : List Nat} {k : Nat} : hasSame (ks.map (pcs P id R)) (pcs P id R k) = decide (k ∈ ks) := by
  unfold hasSame
  rw [Bool.eq_iff_iff, List.any_eq_true, decide_eq_true_eq]
  constructor
  · rintro ⟨Q, hQ, hs⟩
    obtain ⟨i, hi, rfl⟩ := List.mem_map.1 hQ
    unfold sameQ at hs
    simp only [Bool.and_eq_true, decide_eq_true_eq] at hs
    rw [← h.inj hs.1.1]
    exact hi
  · intro hk
    refine ⟨_, List.mem_map.2 ⟨k, hk, rfl⟩, ?_⟩
    unfold sameQ
    simp
theorem CutOf.noClash (h : CutOf P id R m) {ks : List Nat} {k : Nat} (hk : ∀ k ∈ ks, k < m) (hkm : k < m) (hnk : k ∉ ks) (hl : ks.length < 64) : clash (ks.map (pcs P id R)) (pcs P id R k) = false := by
  unfold clash
  rw [Bool.or_eq_false_iff, List.any_eq_false]
  refine ⟨decide_eq_false (by rw [List.length_map]; omega), fun Q hQ => ?_⟩
  obtain ⟨i, hi, rfl⟩ := List.mem_map.1 hQ
  rw [Bool.not_eq_true, bad_mates]
  exact (h.mates (hk i hi) hkm (fun e => hnk (e ▸ hi))).symm
theorem CutOf.full (h : CutOf P id R m) : ∀ (K : List Nat) (j : Nat), K.Pairwise (· < ·) → (∀ k ∈ K, j ≤ k ∧ k < m) → j < m → fullS (K.map (pcs P id R)) ((R * j : Nat) : Int) = true → moreS (K.map (pcs P id R)) = false → K = List.range' j (m - j)
  | [], j, _, _, _, _, hm => by cases hm
  | k :: K, j, hp, hK, hj, hf, hm => by
    have hf : (decide ((pcs P id R k).off = ((R * j : Nat) : Int)) && fullS (K.map (pcs P id R)) (enP (pcs P id R k))) = true := hf
    rw [Bool.and_eq_true, decide_eq_true_eq, ← h.off j] at hf
    obtain rfl : k = j := h.inj hf.1
    have hp' := List.pairwise_cons.1 hp
    by_cases hl : k + 1 < m
    · have hen : enP (pcs P id R k) = ((R * (k + 1) : Nat) : Int) := by
        have := h.next.1 hl
        rw [h.en hj, Nat.mul_succ, Nat.min_eq_left (by omega)]
      rw [hen] at hf
      have hm2 : moreS (K.map (pcs P id R)) = false := by
        cases K with
        | nil =>
          have hm : (pcs P id R k).more = false := hm
          rw [h.more, decide_eq_true hl] at hm
          cases hm
        | cons i K => exact hm
      have ih := CutOf.full h K (k + 1) hp'.2 (fun i hi => ⟨hp'.1 i hi, (hK i (by simp [hi])).2⟩) hl hf.2 hm2
      rw [ih, show m - k = (m - (k + 1)) + 1 by omega, List.range'_succ]
    · have hK0 : K = [] := by
        cases K with
        | nil => rfl
        | cons i K =>
          have h1 := hp'.1 i (by simp)
          have h2 := (hK i (by simp)).2
          omega
      rw [hK0, show m - k = 1 by omega]
      rfl
theorem CutOf.full2 (h : CutOf P id R m) : ∀ (n j : Nat), j + n = m → 0 < n → fullS ((List.range' j n).map (pcs P id R)) ((R * j : Nat) : Int) = true ∧ moreS ((List.range' j n).map (pcs P id R)) = false
  | 0, _, _, h0 => absurd h0 (by omega)
  | 1, j, hj, _ => by
    refine ⟨?_, ?_⟩
    · show (decide ((pcs P id R j).off = ((R * j : Nat) : Int)) && true) = true
      rw [h.off]
      simp
    · show (pcs P id R j).more = false
      rw [h.more]
      exact decide_eq_false (by omega)
  | n + 2, j, hj, _ => by
    have ih := CutOf.full2 h (n + 1) (j + 1) (by omega) (by omega)
    have hen : enP (pcs P id R j) = ((R * (j + 1) : Nat) : Int) := by
      have := (h.next (k := j)).1 (by omega)
      rw [h.en (by omega), Nat.mul_succ, Nat.min_eq_left (by omega)]
    refine ⟨?_, ?_⟩
    · show (decide ((pcs P id R j).off = ((R * j : Nat) : Int)) && fullS ((List.range' (j + 1) (n + 1)).map (pcs P id R)) (enP (pcs P id R j))) = true
      rw [hen, ih.1, h.off]
      simp
    · exact ih.2
theorem CutOf.join (h : CutOf P id R m) : ∀ (n j : Nat), j + n = m → 0 < n → joinS ((List.range' j n).map (pcs P id R)) = P.pay.extract (R * j) P.pay.size
  | 0, _, _, h0 => absurd h0 (by omega)
  | 1, j, hj, _ => by
    have h1 : ¬ (j + 1 < m) := by omega
    rw [h.next] at h1
    show P.pay.extract (R * j) (min (R * j + R) P.pay.size) ++ ByteArray.empty = _
    rw [ByteArray.append_empty, Nat.min_eq_right (by omega)]
  | n + 2, j, hj, _ => by
    have ih := CutOf.join h (n + 1) (j + 1) (by omega) (by omega)
    have h1 := (h.next (k := j)).1 (by omega)
    show P.pay.extract (R * j) (min (R * j + R) P.pay.size) ++ joinS ((List.range' (j + 1) (n + 1)).map (pcs P id R)) = _
    rw [ih, Nat.mul_succ, Nat.min_eq_left (by omega), cutP_join _ (by omega) (by omega) (Nat.le_refl _)]
theorem CutOf.sorted (h : CutOf P id R m) {K : List Nat} (hp : K.Pairwise (· < ·)) : Sor (K.map (pcs P id R)) := by
  unfold Sor
  rw [List.pairwise_map]
  refine hp.imp (fun {i k} hik => ?_)
  rw [h.off, h.off]
  have := h.mul_lt hik
  have := h.R0
  omega
theorem CutOf.bare (h : CutOf P id R m) : bareP (withPay (pcs P id R 0) P.pay) = P := by
  obtain ⟨sv, sb, dv, db, pr, ho, cl, i, o, mo, st, op, fl, ex, cu, pa⟩ := P
  have h1 : o = 0 := h.o
  have h2 : mo = false := h.mo
  have h3 : cu = false := h.c
  subst h1 h2 h3
  cases sv with
  | false => rfl
  | true =>
    have h4 : i = 0 := by
      obtain ⟨_, _, _, _, _, _, _, _, h9⟩ := rgtP_iff.1 h.r
      obtain ⟨_, _, _, _, _, _, h5⟩ := rgt6_iff.1 (show rgt6 _ = true from h9)
      rcases h5 with h5 | h5
      · cases h5
      · exact h5.1
    subst h4
    rfl
/-- Pieces are whole just if all are there; then they are the packet. -/
theorem CutOf.whole (h : CutOf P id R m) {ks : List Nat} (hn : ks.Nodup) (hk : ∀ k ∈ ks, k < m) (hne : ks ≠ []) : wholeM (ks.map (pcs P id R)) = if ks.length = m then some P else none := by
  have hperm : ks.Perm ((List.range m).filter (fun k => decide (k ∈ ks))) := by
    rw [List.perm_ext_iff_of_nodup hn (List.nodup_range.filter _)]
    intro a
    simp only [List.mem_filter, List.mem_range, decide_eq_true_eq]
    exact ⟨fun ha => ⟨hk a ha, ha⟩, fun ha => ha.2⟩
  obtain ⟨K, hK⟩ : ∃ K, (List.range m).filter (fun k => decide (k ∈ ks)) = K := ⟨_, rfl⟩
  have hs : K.Pairwise (· < ·) := by rw [← hK]; exact List.pairwise_lt_range.filter _
  have hb : ∀ k ∈ K, k < m := fun k hk2 => by
    rw [← hK] at hk2
    exact List.mem_range.1 (List.mem_filter.1 hk2).1
  rw [hK] at hperm
  have hKn : K ≠ [] := fun e => hne (by rw [e] at hperm; exact hperm.eq_nil)
  rw [whole_sorted (h.okl hn hk) (hperm.map _) (h.sorted hs) (by simpa using hKn)]
  by_cases hl : ks.length = m
  · have hKr : K = List.range m := by
      have h1 : List.Sublist K (List.range m) := by rw [← hK]; exact List.filter_sublist
      exact h1.eq_of_length (by rw [← hperm.length_eq, hl, List.length_range])
    have h2 := h.full2 m 0 (Nat.zero_add _) h.pos
    rw [Nat.mul_zero, Int.ofNat_zero] at h2
    have h3 := h.join m 0 (Nat.zero_add _) h.pos
    rw [Nat.mul_zero, cutP_all] at h3
    rw [if_pos hl, hKr, List.range_eq_range', if_pos h2, h3]
    have h4 : ((List.range' 0 m).map (pcs P id R)).headD zeroP = pcs P id R 0 := by
      obtain ⟨n, hn⟩ : ∃ n, m = n + 1 := ⟨m - 1, by have := h.pos; omega⟩
      rw [hn]
      rfl
    rw [h4, h.bare]
  · rw [if_neg hl, if_neg]
    rintro ⟨h1, h2⟩
    have h3 := h.full K 0 hs (fun k hk2 => ⟨Nat.zero_le _, hb k hk2⟩) h.pos (by rw [Nat.mul_zero]; exact h1) h2
    refine hl ?_
    rw [hperm.length_eq, h3, List.length_range', Nat.sub_zero]
theorem CutOf.told (h : CutOf P id R m) {ks : List Nat} (hn : ks.Nodup) (hk : ∀ k ∈ ks, k < m) (hne : ks ≠ []) : tellF (ks.map (pcs P id R)) = if ks.length = m then some P else none := by
  unfold tellF
  rw [h.whole hn hk hne]
  by_cases hl : ks.length = m
  · rw [if_pos hl]
    show (if fitP P = true then some P else none) = some P
    rw [if_pos h.f]
  · rw [if_neg hl]
end
end Go.Proofs.Ythnlfjkpiohooaa
/-
  Own text. A box with the pieces of two packets at most, whose times are near.
-/
namespace Go.Proofs.Ythnlfjkpiohooaa
open Go.RowKit Go.Proofs
set_option maxRecDepth 100000
def hpF (f : Fam) (s : Int) : List Pk → List Hp
  | [] => []
  | p :: l => [⟨f, s, p :: l⟩]
structure TwoAt (b : Bx) (t : Int) (f g : Fam) (x y : List Pk) : Prop where
  t0 : 0 ≤ b.time
  t1 : b.time ≤ t
  hs : ∃ s r, (0 ≤ s ∧ 0 ≤ r) ∧ (b.hs = hpF f s x ++ hpF g r y ∨ b.hs = hpF g r y ++ hpF f s x)
theorem two_no (f g : Fam) : TwoAt noB 0 f g [] [] := ⟨Int.le_refl _, Int.le_refl _, 0, 0, ⟨Int.le_refl _, Int.le_refl _⟩, .inl rfl⟩
section
variable {b : Bx} {t n : Int} {f g : Fam} {x y : List Pk} {hs : List Hp} {s r : Int}
theorem TwoAt.symm (h : TwoAt b t f g x y) : TwoAt b t g f y x := by
  obtain ⟨h1, h2, s, r, ⟨hs, hr⟩, h3⟩ := h
  exact ⟨h1, h2, r, s, ⟨hr, hs⟩, h3.symm⟩
theorem hpF_born {h : Hp} (hm : h ∈ hpF f s x) : h.born = s := by
  cases x with
  | nil => cases hm
  | cons p l =>
    have : h = ⟨f, s, p :: l⟩ := by simpa [hpF] using hm
    rw [this]
theorem TwoAt.late (h : TwoAt b t f g x y) (hn : t ≤ n) (h3 : n < 30000) : TwoAt (lateF b n) n f g x y ∧ (lateF b n).time = n := by
  obtain ⟨h1, h2, s, r, ⟨hs, hr⟩, h4⟩ := h
  have ht : timeF b.time n = n := by unfold timeF; omega
  have hf : b.hs.filter (staysF n) = b.hs := by
    rw [List.filter_eq_self]
    intro a ha
    have hb : 0 ≤ a.born := by
      rcases h4 with e | e <;> rw [e] at ha <;> rcases List.mem_append.1 ha with h5 | h5 <;> rw [hpF_born h5] <;> assumption
    unfold staysF
    exact decide_eq_true (by omega)
  refine ⟨⟨?_, ?_, s, r, ⟨hs, hr⟩, ?_⟩, ht⟩
  · show 0 ≤ timeF b.time n
    omega
  · show timeF b.time n ≤ n
    omega
  · show (b.hs.filter (staysF (timeF b.time n)) = _ ∨ b.hs.filter (staysF (timeF b.time n)) = _)
    rw [ht, hf]
    exact h4
theorem find_two (h : hs = hpF f s x ++ hpF g r y ∨ hs = hpF g r y ++ hpF f s x) (hfg : f ≠ g) : findF hs f = (match x with | [] => none | p :: l => some ⟨f, s, p :: l⟩) := by
  rcases h with rfl | rfl <;> cases x <;> cases y <;> simp [findF, hpF, hfg.symm]
theorem drop_two (h : hs = hpF f s x ++ hpF g r y ∨ hs = hpF g r y ++ hpF f s x) (hfg : f ≠ g) : dropF hs f = hpF g r y := by
  rcases h with rfl | rfl <;> cases x <;> cases y <;> simp [dropF, hpF, hfg.symm]
theorem set_two {p q : Pk} {l m : List Pk} (h : hs = hpF f s (p :: l) ++ hpF g r y ∨ hs = hpF g r y ++ hpF f s (p :: l)) (hfg : f ≠ g) : setF hs f (q :: m) = hpF f s (q :: m) ++ hpF g r y ∨ setF hs f (q :: m) = hpF g r y ++ hpF f s (q :: m) := by
  rcases h with rfl | rfl
  · refine .inl ?_
    cases y <;> simp [setF, hpF, hfg.symm]
  · refine .inr ?_
    cases y <;> simp [setF, hpF, hfg.symm]
theorem room_two (h : hs = hpF f s x ++ hpF g r y ∨ hs = hpF g r y ++ hpF f s x) : roomF hs = hs := by
  have : hs.length < 8 := by
    rcases h with rfl | rfl <;> cases x <;> cases y <;> simp [hpF]
  unfold roomF
  rw [if_neg (by omega)]
theorem TwoAt.again (h : TwoAt b t f g x y) (hfg : f ≠ g) (hn : t ≤ n) (h3 : n < 30000) {P : Pk} (hr : rgtP P = true) (hw : wholeQ P = false) (hm : mayL P = true) (hs : hasSame x P = true) : (takeF b n f P).1 = none ∧ TwoAt (takeF b n f P).2 n f g x y := by
  obtain ⟨hl, _⟩ := h.late hn h3
  unfold takeF
  rw [if_neg (by rw [hr]; decide), if_neg (by rw [hw]; decide), if_neg (by rw [hm]; decide)]
  obtain ⟨h1, h2, s, r, hsr, h4⟩ := hl
  unfold putB
  rw [find_two h4 hfg]
  cases x with
  | nil => cases hs
  | cons p l =>
    simp only [hs, if_true]
    exact ⟨trivial, h1, h2, s, r, hsr, h4⟩
theorem TwoAt.take (h : TwoAt b t f g x y) (hfg : f ≠ g) (hn : t ≤ n) (h3 : n < 30000) {P : Pk} (hr : rgtP P = true) (hw : wholeQ P = false) (hm : mayL P = true) (hs : hasSame x P = false) (hc : clash x P = false) (h0 : x = [] → wholeM (x ++ [P]) = none) :
    (takeF b n f P).1 = tellF (x ++ [P]) ∧ TwoAt (takeF b n f P).2 n f g (if (wholeM (x ++ [P])).isSome = true then [] else x ++ [P]) y := by
  obtain ⟨hl, ht⟩ := h.late hn h3
  unfold takeF
  rw [if_neg (by rw [hr]; decide), if_neg (by rw [hw]; decide), if_neg (by rw [hm]; decide)]
  obtain ⟨h1, h2, s, r, hsr, h4⟩ := hl
  unfold putB
  rw [find_two h4 hfg]
  cases x with
  | nil =>
    have h0 := h0 rfl
    rw [List.nil_append] at h0 ⊢
    simp only [room_two h4]
    unfold tellF
    rw [h0]
    refine ⟨rfl, h1, h2, (lateF b n).time, r, ⟨h1, hsr.2⟩, .inr ?_⟩
    have h4' : (lateF b n).hs = hpF g r y := by
      rcases h4 with e | e
      · rw [e]; rfl
      · rw [e]; exact List.append_nil _
    show (lateF b n).hs ++ [_] = hpF g r y ++ [_]
    rw [h4']
  | cons p l =>
    simp only [hs, hc, if_false, Bool.false_eq_true]
    cases hx : (wholeM (p :: l ++ [P])).isSome with
    | true =>
      simp only [if_true]
      refine ⟨trivial, h1, h2, s, r, hsr, .inl ?_⟩
      show dropF (lateF b n).hs f = _
      rw [drop_two h4 hfg]
      rfl
    | false =>
      simp only [if_false, Bool.false_eq_true]
      refine ⟨?_, h1, h2, s, r, hsr, ?_⟩
      · unfold tellF
        rw [Option.isSome_eq_false_iff, Option.isNone_iff_eq_none] at hx
        rw [hx]
      · exact set_two h4 hfg
theorem TwoAt.empty (h : TwoAt b t f g [] []) : b.hs = [] := by
  obtain ⟨_, _, s, r, _, h4⟩ := h
  rcases h4 with e | e <;> exact e
theorem TwoAt.one (h : TwoAt b t f g x y) (hx : x ≠ []) : 1 ≤ b.hs.length := by
  obtain ⟨_, _, s, r, _, h4⟩ := h
  cases x with
  | nil => exact absurd rfl hx
  | cons p l =>
    rcases h4 with e | e <;> rw [e] <;> simp [hpF]
end
theorem fam_pcs (a e : Int) (P : Pk) (id : Int) (R k : Nat) : famOf a e (pcs P id R k) = famL a e P.sv P.sb P.dv P.db P.proto (if P.sv = true then id else P.id) := by
  unfold famOf pcs pieceAt headOf
  by_cases hs : P.sv = true
  · simp only [if_pos hs]
  · simp only [if_neg hs]
/-- One more piece of a packet that was cut. -/
theorem CutOf.step {P : Pk} {id : Int} {R m : Nat} (h : CutOf P id R m) (hm : 2 ≤ m) (hm64 : m ≤ 64) {b : Bx} {t n : Int} {f g : Fam} {y : List Pk} {ks : List Nat} {k : Nat} (hb : TwoAt b t f g (ks.map (pcs P id R)) y) (hfg : f ≠ g) (hn : t ≤ n) (h3 : n < 30000) (hnd : ks.Nodup) (hks : ∀ k ∈ ks, k < m) (hk : k < m) (hnk : k ∉ ks) :
    (takeF b n f (pcs P id R k)).1 = (if ks.length + 1 = m then some P else none) ∧ TwoAt (takeF b n f (pcs P id R k)).2 n f g (if ks.length + 1 = m then [] else (ks ++ [k]).map (pcs P id R)) y := by
  have hnd2 : (ks ++ [k]).Nodup := by
    rw [List.nodup_append]
    exact ⟨hnd, by simp, fun a ha c hc e => by simp at hc; subst hc; subst e; exact hnk ha⟩
  have hks2 : ∀ i ∈ ks ++ [k], i < m := fun i hi => by
    rcases List.mem_append.1 hi with h1 | h1
    · exact hks i h1
    · rw [List.mem_singleton.1 h1]; exact hk
  have hlen : ks.length < m := by
    have h1 : (ks ++ [k]).length ≤ (List.range m).length := by
      have hperm : (ks ++ [k]).Perm ((List.range m).filter (fun j => decide (j ∈ ks ++ [k]))) := by
        rw [List.perm_ext_iff_of_nodup hnd2 (List.nodup_range.filter _)]
        intro a
        simp only [List.mem_filter, List.mem_range, decide_eq_true_eq]
        exact ⟨fun ha => ⟨hks2 a ha, ha⟩, fun ha => ha.2⟩
      rw [hperm.length_eq]
      exact List.length_filter_le _ _
    rw [List.length_append, List.length_singleton, List.length_range] at h1
    exact h1
  have hw := h.whole hnd2 hks2 (by simp)
  have ht := h.told hnd2 hks2 (by simp)
  rw [List.length_append, List.length_singleton] at hw ht
  rw [List.map_append, List.map_singleton] at hw ht
  have := hb.take hfg hn h3 (h.rgt hk) (h.notWhole hm) (h.may hk) (by rw [h.same]; exact decide_eq_false hnk) (h.noClash hks hk hnk (by omega)) (fun e => by
    have e0 : ks = [] := by simpa using e
    rw [hw, e0, if_neg (by simp; omega)])
  rw [ht] at this
  rw [hw] at this
  refine ⟨this.1, ?_⟩
  have h2 := this.2
  rw [List.map_append, List.map_singleton]
  by_cases hl : ks.length + 1 = m
  · rw [if_pos hl] at h2 ⊢
    exact h2
  · rw [if_neg hl] at h2 ⊢
    exact h2
theorem CutOf.again {P : Pk} {id : Int} {R m : Nat} (h : CutOf P id R m) (hm : 2 ≤ m) {b : Bx} {t n : Int} {f g : Fam} {y : List Pk} {ks : List Nat} {k : Nat} (hb : TwoAt b t f g (ks.map (pcs P id R)) y) (hfg : f ≠ g) (hn : t ≤ n) (h3 : n < 30000) (hk : k < m) (hkk : k ∈ ks) :
    (takeF b n f (pcs P id R k)).1 = none ∧ TwoAt (takeF b n f (pcs P id R k)).2 n f g (ks.map (pcs P id R)) y :=
  hb.again hfg hn h3 (h.rgt hk) (h.notWhole hm) (h.may hk) (by rw [h.same]; exact decide_eq_true hkk)
/-- What Split tells of a whole packet. -/
theorem split_whole {P : Pk} {mtu id : Int} (he : (splitP P mtu id).2 = 0) (ho : P.off ≤ 0) (hm : P.more = false) :
    rgtP P = true ∧ fitP P = true ∧ P.cut = false ∧ ((splitP P mtu id).1 = [P] ∧ (sizeP P : Int) ≤ mtu ∨ ∃ R m, CutOf P id R m ∧ 2 ≤ m ∧ (splitP P mtu id).1 = (List.range m).map (pcs P id R) ∧ ∀ k, k < m → (sizeP (pcs P id R k) : Int) ≤ mtu) := by
  unfold splitP at he ⊢
  by_cases hmc : mayC P mtu id = false
  · rw [if_pos hmc] at he; cases he
  rw [if_neg hmc] at he ⊢
  obtain ⟨hr, hm68, hi0, hi1, hcut⟩ := mayC_parts (by simpa using hmc)
  by_cases hft0 : fitP P = false
  · rw [if_pos hft0] at he; cases he
  have hft : fitP P = true := by simpa using hft0
  refine ⟨hr, hft, hcut, ?_⟩
  rw [if_neg hft0] at he ⊢
  by_cases hle : (sizeP P : Int) ≤ mtu
  · rw [if_pos hle]
    exact .inl ⟨rfl, hle⟩
  rw [if_neg hle] at he ⊢
  by_cases hst : P.still = true
  · rw [if_pos hst] at he; cases he
  rw [if_neg hst] at he ⊢
  by_cases hb0 : bigP P (roomP P mtu id) = true
  · rw [if_pos hb0] at he; cases he
  have hb : bigP P (roomP P mtu id) = false := by simpa using hb0
  rw [if_neg hb0]
  obtain ⟨_, _, _, _, _, _, h7, _, _⟩ := rgtP_iff.1 hr
  have ho0 : P.off = 0 := by omega
  have hb2 := Bool.or_eq_false_iff.1 hb
  have hR0 : roomP P mtu id ≠ 0 := of_decide_eq_false hb2.1
  have hlt : mtu < (sizeP P : Int) := by omega
  have h8 := pay_pos (id := id) hr hcut hlt hR0
  have hR8 := room_mod P mtu id
  have hrm : roomP P mtu id ≤ (mtu - (headP (headOf P id) : Int)).toNat := by unfold roomP; omega
  have hsz : sizeP P = headP P + P.pay.size := by unfold sizeP; rw [if_pos hr]
  have hhd : headP P ≤ headP (headOf P id) := by
    unfold headOf
    by_cases h : P.sv = true
    · rw [if_pos h]
      unfold headP
      rw [if_pos h, hcut]
      show _ ≤ (if P.sv = true then 40 + exLen P.exts + (if true = true then 8 else 0) else _)
      rw [if_pos h]
      simp
    · rw [if_neg h]
      exact Nat.le_refl _
  have hbig : (P.pay.size - 1) / roomP P mtu id * roomP P mtu id ≤ 65528 := by
    have h := of_decide_eq_false hb2.2
    rw [ho0] at h
    generalize (P.pay.size - 1) / roomP P mtu id * roomP P mtu id = z at *
    omega
  have hsv : ∀ a, sizeP (pieceAt P id (roomP P mtu id) a) ≤ headP (headOf P id) + (min (a + roomP P mtu id) P.pay.size - a) := fun a => by
    unfold sizeP
    split
    · rw [piece_head, piece_pay]; exact Nat.le_refl _
    · omega
  generalize hRR : roomP P mtu id = R at *
  have hmm : manyP P R = (P.pay.size - 1) / R + 1 := by
    unfold manyP
    rw [show P.pay.size + R - 1 = (P.pay.size - 1) + R by omega, Nat.add_div_right _ (by omega)]
  have hC : CutOf P id R (manyP P R) := ⟨hr, hcut, ho0, hm, hi0, hi1, hR8, by omega, rfl, hft, by omega, by rw [hmm, Nat.add_sub_cancel, Nat.mul_comm]; exact hbig⟩
  refine .inr ⟨R, manyP P R, hC, ?_, rfl, fun k hk => ?_⟩
  · have h9 : R < P.pay.size → 2 ≤ manyP P R := fun h9 => by
      have := (hC.next (k := 0)).2 (by rw [Nat.mul_zero, Nat.zero_add]; exact h9)
      omega
    exact h9 (by omega)
  · have h10 := hsv (R * k)
    show (sizeP (pieceAt P id R (R * k)) : Int) ≤ mtu
    omega
theorem split_err {P : Pk} {mtu id : Int} (he : (splitP P mtu id).2 ≠ 0) : (splitP P mtu id).1 = [] := by
  unfold splitP at he ⊢
  split
  · rfl
  · rename_i h1
    rw [if_neg h1] at he
    split
    · rfl
    · rename_i h2
      rw [if_neg h2] at he
      split
      · rename_i h3
        rw [if_pos h3] at he
        exact absurd rfl he
      · rename_i h3
        rw [if_neg h3] at he
        split
        · rfl
        · rename_i h4
          rw [if_neg h4] at he
          split
          · rfl
          · rename_i h5
            rw [if_neg h5] at he
            exact absurd rfl he
end Go.Proofs.Ythnlfjkpiohooaa
/-
  Own text. The law's own helpers: small, awake. Rows of packets read.
-/
namespace Go.Proofs.Ythnlfjkpiohooaa
open Go.RowKit Go.Proofs
set_option maxRecDepth 100000
/-- The packet of so many bytes. -/
def smP (s : ByteArray) : Pk := ⟨false, v4B 10 0 0 1, false, v4B 10 0 0 2, 17, 64, 0, 1, 0, false, false, ByteArray.empty, 0, [], false, s⟩
theorem run_bdM (s : ByteArray) (w : World) : (Instr.build 27 #[(0, .agg (SC 17 (adV false (v4B 10 0 0 1)))), (1, .agg (SC 17 (adV false (v4B 10 0 0 2)))), (2, .int .i64 17), (3, .int .i64 64), (5, .int .i64 1), (13, .string s)]).run Try.prog w = .ok (.agg (SC 46 (pkV (smP s) (.slice none 0 0)))) w := by kernel_rfl
theorem exec_bdM {a : Act} {o : Oper} {w : World} {x y z : Operand} {s : ByteArray} (ho : o.op = .build 27 #[(0, x), (1, y), (2, .const (.int .i64 17)), (3, .const (.int .i64 64)), (5, .const (.int .i64 1)), (13, z)]) (hx : a.eval x = .agg (SC 17 (adV false (v4B 10 0 0 1)))) (hy : a.eval y = .agg (SC 17 (adV false (v4B 10 0 0 2)))) (hz : a.eval z = .string s) : (execOp a.eval o).run Try.prog w = .ok (.value (.agg (SC 46 (pkV (smP s) (.slice none 0 0))))) w := by
  have e1 : a.eval (.const (.int .i64 17)) = .int .i64 17 := rfl
  have e2 : a.eval (.const (.int .i64 64)) = .int .i64 64 := rfl
  have e3 : a.eval (.const (.int .i64 1)) = .int .i64 1 := rfl
  unfold execOp
  simp only [ho, List.map_toArray, List.map_cons, List.map_nil, hx, hy, hz, e1, e2, e3, Sem.run_bind, run_bdM, Result.andThen_ok, Sem.run_pure]
theorem act_mkB {o : Oper} {a : Act} {w : World} {K : Act → World → Prop} {Q : Exit → Act → World → Prop} {x y : Operand} {n : Nat} (ho : o.op = .makeSlice 74 x y) (hx : a.eval x = .int .i64 (n : Int)) (hy : a.eval y = .int .i64 (n : Int)) (hn : n ≤ 65536)
    (h : ∀ w', Below w.heap.size w w' → w'.heap[w.heap.size]? = some (.cells (WA .u8 n fun _ => 0) 5 (0, 0)) → K (a.put o.dst (.slice (some ⟨w.heap.size, 0, none⟩) n n)) w') : o.wp Try.prog a w K Q := by
  have hr := run_mkB n hn w
  unfold Oper.wp execOp
  simp only [ho, hx, hy, Sem.run_bind, hr, Result.andThen_ok, Sem.run_pure, Oper.upon]
  exact h _ ((Below.refl _ _).alloc (Nat.le_refl _) _) (heap_alloc_new w _)
theorem str_zero {w : World} {b n : Nat} (hc : w.heap[b]? = some (.cells (WA .u8 n fun _ => 0) 5 (0, 0))) : (convert 74 9 (.slice (some ⟨b, 0, none⟩) n n)).run Try.prog w = .ok (.string (mkS n fun _ => 0)) w := by
  have h := run_convert_bytes_back (P := Try.prog) w 74 9 5 ⟨b, 0, none⟩ n (bytesL n fun _ => 0) Try.underlying74 Try.underlying5 Try.underlying9 (fun j hj => by
    rw [bytesL_len] at hj
    have hg := RowAt.of hc
    rw [Addr.add_lit, Nat.zero_add, hg.cell j hj]
    simp [bytesL])
  rw [bytesL_len] at h
  exact h
theorem exec_cvBS {a : Act} {o : Oper} {w : World} {x : Operand} {v : Value} {s : ByteArray} (ho : o.op = .convert 74 9 x) (hx : a.eval x = v) (hr : (convert 74 9 v).run Try.prog w = .ok (.string s) w) : (execOp a.eval o).run Try.prog w = .ok (.value (.string s)) w := by
  unfold execOp
  simp only [ho, hx, Sem.run_bind, hr, Result.andThen_ok, Sem.run_pure]
theorem en_V4 (args : Array Value) (w : World) : (callFunc 43 args).run Try.prog w = .ok (.enter 43 args) w := by kernel_rfl
set_option maxHeartbeats 4000000 in
theorem small14_run (w : World) : Calls Try.prog 21 #[.int .i64 100] w fun e w' => e = .returned (.agg (SC 46 (pkV (smP (mkS 100 fun _ => 0)) (.slice none 0 0)))) ∧ Below w.heap.size w w' := by
  go_enter Try.func21, Try.ntmps21
  go_wp2_with (refine wl_alO rfl rfl zeroPk ?_; intro g2 w2 hg2 s2 hB2; refine Hid.out ?_)
  refine Hid.mk ?_
  go_upto_region 1 with fail
  refine wp_region_cut 6 rfl (by kernel_rfl) (any_region3 (Below w2.heap.size w2) (w2.heap.size)
      ([] : List (Nat × Cont))
      [kv (.agg (SC 17 (adV false (v4B 10 0 0 1)))), kv (.agg (SC 17 (adV false (v4B 10 0 0 2)))), kv (.int .i64 100), ks 100 (WA .u8 100 fun _ => 0) 5, kv (.string (mkS 100 fun _ => 0)), kv (.agg (SC 46 (pkV (smP (mkS 100 fun _ => 0)) (.slice none 0 0))))]
      [.none, .none, .none, .none, .none, .none]
      [some 3, some 4, some 5, some 6, some 7, some 8]
      [(0, .int .i64 100)]
      [[], [], [], [.slot 2], [.slot 3, .cont 3 0], [.slot 0, .slot 1, .slot 4]]
      [.slot 5] [3, 4, 5, 6, 7, 8]
      (by kernel_rfl) ⟨rfl, trivial⟩ ((Below.refl _ w2).drew) (Nat.le_refl _) trivial trivial (below_GcW (Nat.le_refl _))
      ⟨
      (fun QQ aa ww own hS hBg fr kn => .inl ⟨trivial, fun K hK => stepc en_V4 rfl (args4 rfl rfl rfl rfl) (V4_run 10 0 0 1 ww) (fun w' hb => hK _ _ ⟨touch_below hb, rfl⟩)⟩),
      (fun QQ aa ww own hS hBg fr kn => .inl ⟨trivial, fun K hK => stepc en_V4 rfl (args4 rfl rfl rfl rfl) (V4_run 10 0 0 2 ww) (fun w' hb => hK _ _ ⟨touch_below hb, rfl⟩)⟩),
      (fun QQ aa ww own hS hBg fr kn => .inl ⟨trivial, fun K hK => wp_value (exec_move rfl fr.1) (hK _ _ ⟨Touch.refl _ _, rfl⟩)⟩),
      (fun QQ aa ww own hS hBg fr kn => .inl ⟨trivial, fun K hK => act_mkB (n := 100) rfl kn.1 kn.1 (by decide) (fun w' hb hg => hK _ _ ⟨touch_below hb, _, Nat.le_refl _, rfl, obIn hg⟩)⟩),
      (fun QQ aa ww own hS hBg fr kn => .inl ⟨trivial, fun K hK => wp_value (exec_cvBS rfl kn.1.1 (str_zero (obAt kn.2.1))) (hK _ _ ⟨Touch.refl _ _, rfl⟩)⟩),
      (fun QQ aa ww own hS hBg fr kn => .inl ⟨trivial, fun K hK => wp_value (exec_bdM rfl kn.1 kn.2.1 kn.2.2.1) (hK _ _ ⟨Touch.refl _ _, rfl⟩)⟩),
      trivial⟩ ?_)
  intro vs own w3 hS hsz kn inj
  have e8 : vs 8 = .agg (SC 46 (pkV (smP (mkS 100 fun _ => 0)) (.slice none 0 0))) := kn.1
  clear kn inj hsz
  show wpList Try.prog _ _ (_ :: []) _ _
  simp only [putAll, Act.put, List.setIfInBounds_toArray, List.set_cons_zero, List.set_cons_succ, e8]
  clear e8
  have s3 := s2.kept hS
  go_wp2_with (refine st_stO (V := pkV (smP (mkS 100 fun _ => 0)) (.slice none 0 0)) (g := g2) rfl rfl isPk (fun i => pkV_one rfl i) s3 rfl rfl ?_; intro w4 s4 ho4; refine Hid.out ?_)
  refine Hid.mk ?_
  go_wp2_with fail
  exact bodyPost_ret (res_st rfl isPk s4 rfl) rfl ⟨rfl, (hB2.trans (hS.mono hB2.size)).trans (ho4.below hg2)⟩
theorem row_pk {w : World} {B C : Nat} {p : Addr} {c : Nat} {l : List (Pk × Value)} (h : PkRow w B C (.slice (some p) l.length c) l) {i : Nat} {x : Pk × Value} (hi : l[i]? = some x) : (Instr.loadAt 27 (.pointer (some (p.add (46 * i))))).run Try.prog w = .ok (.agg (SC 46 (pkV x.1 x.2))) w := by
  have hil : i < l.length := (List.getElem?_eq_some_iff.1 hi).1
  refine run_loadAt_addr w (p.add (46 * i)) 27 ((List.range 46).map (pkV x.1 x.2)) _ (fun j y hj => ?_) Try.underlying27 rfl (by rw [List.length_map, List.length_range]; kernel_rfl)
  rw [List.getElem?_map] at hj
  have hl : j < 46 := by
    rcases Nat.lt_or_ge j 46 with h | h
    · exact h
    · rw [List.getElem?_eq_none (by simpa using h)] at hj; cases hj
  rw [List.getElem?_range hl] at hj
  rw [Addr.add_add]
  rcases h.row.2 with ⟨e, _⟩ | ⟨g, cap, cur, e, _⟩
  · cases e
  · injection e with e _ _
    injection e with e
    subst e
    have h2 := h.row.cells (g := g) rfl (46 * i + j) _ (rX_at 46 _ _ i j hil hl)
    rw [h2]
    unfold pksZ
    rw [List.getD_eq_getElem?_getD, hi]
    exact hj
theorem PkRow.shape {w : World} {B C : Nat} {v : Value} {l : List (Pk × Value)} (h : PkRow w B C v l) : ∃ p cap, v = .slice p l.length cap ∧ (0 < l.length → ∃ g, p = some ⟨g, 0, none⟩) := ownM_shape h.row
theorem PkRow.lt {w : World} {B C : Nat} {v : Value} {l : List (Pk × Value)} (h : PkRow w B C v l) {k : Nat} (hk : v.ownBlock = some k) : k < w.heap.size := by
  rcases h.row.2 with ⟨e, _⟩ | ⟨g, cap, cur, e, _, hq, _⟩
  · rw [e] at hk; cases hk
  · rw [e] at hk; cases hk; exact heap_lt hq
/-- All that was there stays: so does the row. -/
theorem PkRow.keep {w w' : World} {B C : Nat} {v : Value} {l : List (Pk × Value)} (h : PkRow w B C v l) (hs : w.heap.size ≤ w'.heap.size) (e : ∀ k, k < w.heap.size → w'.heap[k]? = w.heap[k]?) : PkRow w' B C v l :=
  ⟨ownM_block h.row (fun k hk => e k (h.lt hk)), fun x hx => (h.exs x hx).away hs e, h.apart, h.off⟩
theorem keep_spares {n : Nat} {w w' : World} (h : Spares (fun k => k < n) w w') (hn : n ≤ w.heap.size) : ∀ k, k < n → w'.heap[k]? = w.heap[k]? := fun k hk => h.block k (Nat.lt_of_lt_of_le hk hn) (fun hn => hn hk)
theorem exec_ixK {a : Act} {o : Oper} {w : World} {x y : Operand} (ho : o.op = .indexAddr 29 x y) {p : Addr} {n c i : Nat} (hx : a.eval x = .slice (some p) n c) (hy : a.eval y = .int .i64 (i : Int)) (hi : i < n) : (execOp a.eval o).run Try.prog w = .ok (.value (.pointer (some (p.add (46 * i))))) w := by
  unfold execOp
  simp only [ho, hx, hy, Sem.run_bind]
  rw [run_indexAt_slice w 29 _ n c .i64 (i : Int) Try.underlying29, if_pos ⟨by omega, by omega⟩]
  have e : (sizeOf (Try.prog.elem 29)).run Try.prog w = .ok 46 w := by kernel_rfl
  simp [e, Nat.mul_comm]
theorem exec_lenK {a : Act} {o : Oper} {w : World} {x : Operand} (ho : o.op = .call { callee := .builtin .len, args := #[x], argTypes := #[29] }) {ad : Option Addr} {n c : Nat} (hx : a.eval x = .slice ad n c) : (execOp a.eval o).run Try.prog w = .ok (.value (.int .i64 (n : Int))) w := by
  have hr : (Builtin.len_ #[29] o.type #[.slice ad n c]).run Try.prog w = .ok (goInt n) w := by simp [go_sem]
  simp [execOp, ho, resolve, invoke, builtin, hx, hr, goInt]
theorem run_tg0 (w : World) : (Instr.build 45 #[]).run Try.prog w = .ok (.agg (SC 2 (tgV 0 0))) w := by kernel_rfl
theorem exec_tg0 {a : Act} {o : Oper} {w : World} (ho : o.op = .build 45 #[]) : (execOp a.eval o).run Try.prog w = .ok (.value (.agg (SC 2 (tgV 0 0)))) w := by
  unfold execOp
  simp only [ho, List.map_toArray, List.map_nil, Sem.run_bind, run_tg0, Result.andThen_ok, Sem.run_pure]
theorem BoxAt.local {w w1 w2 : World} {B : Nat} {N : Nat → Prop} {g q : Nat} {mv : Value} {b : Bx} {begun : Int} {cs : List Ch} (h : BoxAt w B N g mv b begun cs) (hB : Below w.heap.size w w1) (hq : w.heap.size ≤ q) (ho : Only q w1 w2) : BoxAt w2 B N g mv b begun cs :=
  (((h.more (N' := fun k => N k ∨ k = q) (fun k hk => hk.imp_right (fun e => by omega))).kept hB).awayN (touch_only ho) (fun k e => .inr e)).more (fun k hk => .inl (.inl hk))
theorem Spares.local {n : Nat} {w w1 w2 : World} {q : Nat} (hB : Below w.heap.size w w1) (hq : w.heap.size ≤ q) (hn : n ≤ w.heap.size) (ho : Only q w1 w2) : Spares (fun k => k < n) w w2 := (spares_below hB).trans (spares_only ho (by omega))
theorem TwoAt.held {b : Bx} {t : Int} {f g : Fam} {x y : List Pk} (h : TwoAt b t f g x y) : heldF b.hs = heldL x + heldL y := by
  obtain ⟨_, _, s, r, _, h4⟩ := h
  rcases h4 with e | e <;> rw [e] <;> cases x <;> cases y <;> simp [hpF, heldF, heldL] <;> omega
theorem tell_of (o : Option Pk) (v : Value) : ∃ Q v2, tellV o v = .tuple #[.agg (SC 46 (pkV Q v2)), .bool o.isSome] ∧ (o = some Q ∧ v2 = v ∨ o = none ∧ Q = zeroP ∧ v2 = .slice none 0 0) := by
  cases o with
  | none => exact ⟨zeroP, .slice none 0 0, rfl, .inr ⟨rfl, rfl, rfl⟩⟩
  | some Q => exact ⟨Q, v, rfl, .inl ⟨rfl, rfl⟩⟩
end Go.Proofs.Ythnlfjkpiohooaa
/-
  Own text. awake.
-/
namespace Go.Proofs.Ythnlfjkpiohooaa
open Go.RowKit Go.Proofs
set_option maxRecDepth 100000
/-- Take, with what it tells in plain form. -/
theorem TakeO_run {u : World} {n B g : Nat} {mv v : Value} {b b' : Bx} {begun now t e0 : Int} {cs : List Ch} {P : Pk} {o : Option Pk} (hb : BoxAt u B (fun k => k < n) g mv b begun cs) (hn : n ≤ u.heap.size) (hx : ExAt u v P.exts) (hv : ∀ k, exK v = some k → k < n) (hl : P.exts.length < 4611686018427387904) (hbd : ∀ x ∈ P.exts, x.body.size ≤ 140737488355328) (hp : P.pay.size ≤ 140737488355328) (hbg : begun + 1 < 4611686018427387904) (ho : (takeF b now (famOf t e0 P) P).1 = o) (hb' : (takeF b now (famOf t e0 P) P).2 = b') :
    Calls Try.prog 17 #[.pointer (some ⟨g, 0, none⟩), .int .i64 now, .agg (SC 2 (tgV t e0)), .agg (SC 46 (pkV P v))] u fun e w' => ∃ Q v2 mv' bg' cs', e = .returned (.tuple #[.agg (SC 46 (pkV Q v2)), .bool o.isSome]) ∧ v2.oneCell' = true ∧ (o = some Q ∧ ExAt w' v2 Q.exts ∨ o = none ∧ Q = zeroP ∧ v2 = .slice none 0 0) ∧ BoxAt w' B (fun k => k < n) g mv' b' bg' cs' ∧ bg' ≤ begun + 1 ∧ Spares (fun k => k < n) u w' := by
  refine (Take_run (now := now) (t := t) (e0 := e0) hb hx hv (fun k hk => Nat.lt_of_lt_of_le hk hn) hl hbd hp hbg).mono ?_
  rintro e w' ⟨v', mv', bg', cs', rfl, hq, hb2, hbg2, hs⟩
  rw [ho] at hq ⊢
  rw [hb'] at hb2
  obtain ⟨Q, v2, hT, hc⟩ := tell_of o v'
  rcases hc with ⟨e1, e2⟩ | ⟨e1, e2, e3⟩
  · rw [hT]
    refine ⟨Q, v2, mv', bg', cs', rfl, by rw [e2]; exact (hq Q e1).1.one, .inl ⟨e1, by rw [e2]; exact (hq Q e1).1⟩, hb2, hbg2, hs⟩
  · rw [hT]
    exact ⟨Q, v2, mv', bg', cs', rfl, by rw [e3]; rfl, .inr ⟨e1, e2, e3⟩, hb2, hbg2, hs⟩
theorem pcs_exts (P : Pk) (id : Int) (R k : Nat) : (pcs P id R k).exts = P.exts := head_exts P id
theorem CutOf.small {P : Pk} {id : Int} {R m : Nat} (h : CutOf P id R m) {k : Nat} (hk : k < m) : (pcs P id R k).exts.length < 4611686018427387904 ∧ (∀ x ∈ (pcs P id R k).exts, x.body.size ≤ 140737488355328) ∧ (pcs P id R k).pay.size ≤ 140737488355328 := by
  have h1 := fit_pay h.f
  exact ⟨(rgt_len (h.rgt hk)).1, rgt_bod (h.rgt hk), by rw [h.pay]; omega⟩
/-- One more piece of a packet that was cut is taken. -/
theorem stepT_run {P : Pk} {id : Int} {R m : Nat} (h : CutOf P id R m) (hm : 2 ≤ m) (hm64 : m ≤ 64) {u : World} {n B g : Nat} {mv v : Value} {b : Bx} {begun now t t0 e0 : Int} {cs : List Ch} {G : Fam} {y : List Pk} {ks : List Nat} {k : Nat} (hb : TwoAt b t (famOf t0 e0 (pcs P id R 0)) G (ks.map (pcs P id R)) y) (hfg : famOf t0 e0 (pcs P id R 0) ≠ G) (hn : t ≤ now) (h3 : now < 30000) (hnd : ks.Nodup) (hks : ∀ k ∈ ks, k < m) (hk : k < m) (hnk : k ∉ ks) (hB : BoxAt u B (fun k => k < n) g mv b begun cs) (hnu : n ≤ u.heap.size) (hx : ExAt u v P.exts) (hv : ∀ q, exK v = some q → q < n) (hbg : begun + 1 < 4611686018427387904) :
    Calls Try.prog 17 #[.pointer (some ⟨g, 0, none⟩), .int .i64 now, .agg (SC 2 (tgV t0 e0)), .agg (SC 46 (pkV (pcs P id R k) v))] u fun e w' => ∃ Q v2 mv' bg' cs' b', e = .returned (.tuple #[.agg (SC 46 (pkV Q v2)), .bool (decide (ks.length + 1 = m))]) ∧ v2.oneCell' = true ∧ (ks.length + 1 = m → Q = P ∧ ExAt w' v2 P.exts) ∧ BoxAt w' B (fun k => k < n) g mv' b' bg' cs' ∧ TwoAt b' now (famOf t0 e0 (pcs P id R 0)) G (if ks.length + 1 = m then [] else (ks ++ [k]).map (pcs P id R)) y ∧ bg' ≤ begun + 1 ∧ Spares (fun k => k < n) u w' := by
  have hst := h.step hm hm64 hb hfg hn h3 hnd hks hk hnk
  have hf : famOf t0 e0 (pcs P id R 0) = famOf t0 e0 (pcs P id R k) := by rw [fam_pcs, fam_pcs]
  have hs := h.small hk
  rw [hf] at hst ⊢
  refine (TakeO_run (t := t0) (e0 := e0) (P := pcs P id R k) hB hnu (by rw [pcs_exts]; exact hx) hv hs.1 hs.2.1 hs.2.2 hbg hst.1 rfl).mono ?_
  rintro e w' ⟨Q, v2, mv', bg', cs', rfl, h1, h2, h4, h5, h6⟩
  have hd : (if ks.length + 1 = m then some P else none).isSome = decide (ks.length + 1 = m) := by split <;> rename_i hh <;> simp [hh]
  refine ⟨Q, v2, mv', bg', cs', _, by rw [hd], h1, fun hl => ?_, h4, hst.2, h5, h6⟩
  rcases h2 with ⟨e1, e2⟩ | ⟨e1, _⟩
  · rw [if_pos hl] at e1
    injection e1 with e1
    subst e1
    exact ⟨rfl, e2⟩
  · rw [if_pos hl] at e1
    cases e1
/-- A piece that is there is taken again. -/
theorem againT_run {P : Pk} {id : Int} {R m : Nat} (h : CutOf P id R m) (hm : 2 ≤ m) {u : World} {n B g : Nat} {mv v : Value} {b : Bx} {begun now t t0 e0 : Int} {cs : List Ch} {G : Fam} {y : List Pk} {ks : List Nat} {k : Nat} (hb : TwoAt b t (famOf t0 e0 (pcs P id R 0)) G (ks.map (pcs P id R)) y) (hfg : famOf t0 e0 (pcs P id R 0) ≠ G) (hn : t ≤ now) (h3 : now < 30000) (hk : k < m) (hkk : k ∈ ks) (hB : BoxAt u B (fun k => k < n) g mv b begun cs) (hnu : n ≤ u.heap.size) (hx : ExAt u v P.exts) (hv : ∀ q, exK v = some q → q < n) (hbg : begun + 1 < 4611686018427387904) :
    Calls Try.prog 17 #[.pointer (some ⟨g, 0, none⟩), .int .i64 now, .agg (SC 2 (tgV t0 e0)), .agg (SC 46 (pkV (pcs P id R k) v))] u fun e w' => ∃ mv' bg' cs' b', e = .returned (.tuple #[.agg (SC 46 (pkV zeroP (.slice none 0 0))), .bool false]) ∧ BoxAt w' B (fun k => k < n) g mv' b' bg' cs' ∧ TwoAt b' now (famOf t0 e0 (pcs P id R 0)) G (ks.map (pcs P id R)) y ∧ bg' ≤ begun + 1 ∧ Spares (fun k => k < n) u w' := by
  have hst := h.again hm hb hfg hn h3 hk hkk
  have hf : famOf t0 e0 (pcs P id R 0) = famOf t0 e0 (pcs P id R k) := by rw [fam_pcs, fam_pcs]
  have hs := h.small hk
  rw [hf] at hst ⊢
  refine (TakeO_run (t := t0) (e0 := e0) (P := pcs P id R k) hB hnu (by rw [pcs_exts]; exact hx) hv hs.1 hs.2.1 hs.2.2 hbg hst.1 rfl).mono ?_
  rintro e w' ⟨Q, v2, mv', bg', cs', rfl, h1, h2, h4, h5, h6⟩
  rcases h2 with ⟨e1, _⟩ | ⟨_, rfl, rfl⟩
  · cases e1
  · exact ⟨mv', bg', cs', _, rfl, h4, hst.2, h5, h6⟩
theorem exec_lenSV {a : Act} {o : Oper} {w : World} {x : Operand} {s : ByteArray} {n : Nat} (h : s.size = n) (ho : o.op = .call { callee := .builtin .len, args := #[x], argTypes := #[9] }) (hx : a.eval x = .string s) : (execOp a.eval o).run Try.prog w = .ok (.value (.int .i64 (n : Int))) w := by
  subst h
  exact exec_lenS ho hx
theorem exec_fpkP {a : Act} {o : Oper} {w : World} {x : Operand} (ho : o.op = .fieldAddr 27 x 6) {p : Addr} (hx : a.eval x = .pointer (some p)) : (execOp a.eval o).run Try.prog w = .ok (.value (.pointer (some (p.add 38)))) w := by
  have h : (Instr.fieldAt 27 (.pointer (some p)) 6).run Try.prog w = .ok (.pointer (some (p.add 38))) w := by simp [go_sem]
  unfold execOp
  simp only [ho, hx, Sem.run_bind, h, Result.andThen_ok, Sem.run_pure]
theorem row_off {w : World} {B C : Nat} {p : Addr} {c : Nat} {l : List (Pk × Value)} (h : PkRow w B C (.slice (some p) l.length c) l) {i : Nat} {x : Pk × Value} (hi : l[i]? = some x) : w.cell? ((p.add (46 * i)).add 38) = some (.int .i64 x.1.off) := by
  have hil : i < l.length := (List.getElem?_eq_some_iff.1 hi).1
  rw [Addr.add_add]
  rcases h.row.2 with ⟨e, _⟩ | ⟨g, cap, cur, e, _⟩
  · cases e
  · injection e with e _ _
    injection e with e
    subst e
    have h2 := h.row.cells (g := g) rfl (46 * i + 38) _ (rX_at 46 _ _ i 38 hil (by decide))
    rw [h2]
    unfold pksZ
    rw [List.getD_eq_getElem?_getD, hi]
    rfl
def s100 : Pk := smP (mkS 100 fun _ => 0)
theorem s100_cut : CutOf s100 0 48 3 := ⟨by decide +kernel, by decide +kernel, by decide +kernel, by decide +kernel, by decide, by decide, by decide, by decide, by decide +kernel, by decide +kernel, by decide +kernel, by decide⟩
theorem s100_split : splitP s100 68 0 = (cutN s100 0 48 3, 0) := by
  have h1 : ¬ (mayC s100 68 0 = false) := by decide +kernel
  have h2 : ¬ (fitP s100 = false) := by decide +kernel
  have h3 : ¬ ((sizeP s100 : Int) ≤ 68) := by decide +kernel
  have h4 : ¬ (s100.still = true) := by decide +kernel
  have h5 : roomP s100 68 0 = 48 := by decide +kernel
  have h6 : ¬ (bigP s100 48 = true) := by decide +kernel
  have h7 : manyP s100 48 = 3 := by decide +kernel
  unfold splitP
  rw [if_neg h1, if_neg h2, if_neg h3, if_neg h4, h5, if_neg h6, h7]
theorem s100_size : s100.pay.size = 100 := by decide +kernel
theorem s100_held : heldL ([2, 0].map (pcs s100 0 48)) = 52 := by decide +kernel
theorem s100_off : (pcs s100 0 48 1).off = 48 := by decide +kernel
set_option maxHeartbeats 16000000 in
theorem awake14_run (w : World) : Calls Try.prog 7 #[] w fun e w' => e = .returned (.bool true) ∧ Below w.heap.size w w' := by
  have HSM : Hid (∀ ww, Calls Try.prog 21 #[.int .i64 100] ww fun e w' => e = .returned (.agg (SC 46 (pkV s100 (.slice none 0 0)))) ∧ Below ww.heap.size ww w') := Hid.mk (fun ww => small14_run ww)
  have HSP : Hid (∀ ww, Calls Try.prog 9 #[.agg (SC 46 (pkV s100 (.slice none 0 0))), .int .i64 68, .int .i64 0] ww fun e w' => CutPost ww.heap.size 0 (cutN s100 0 48 3) e w' ∧ Below ww.heap.size ww w') := Hid.mk (fun ww => by
    have := Split_run s100 (.slice none 0 0) 68 0 ww (ExAt.nil ww) (by decide) (fun x hx => by cases hx) (by rw [s100_size]; decide)
    rw [s100_split] at this
    exact this)
  have HNW := Hid.mk (fun ww => New_run ww)
  have HC := Hid.mk s100_cut
  have HSZ := Hid.mk s100_size
  have HHE := Hid.mk s100_held
  have HOF := Hid.mk s100_off
  generalize s100 = SP at *
  go_enter Try.func7, Try.ntmps7
  go_wp2_with (go_at_call 21; refine (HSM.out _).mono ?_; rintro e u1 ⟨rfl, hB1⟩; refine Hid.out ?_)
  refine Hid.mk ?_
  go_wp2_with (go_at_call 9; refine (HSP.out _).mono ?_; rintro e u2 ⟨⟨v', l, rfl, hrow, hl⟩, hB2⟩; refine Hid.out ?_)
  refine Hid.mk ?_
  obtain ⟨x0, x1, x2, rfl, h0, h1, h2⟩ : ∃ x0 x1 x2, l = [x0, x1, x2] ∧ x0.1 = pcs SP 0 48 0 ∧ x1.1 = pcs SP 0 48 1 ∧ x2.1 = pcs SP 0 48 2 := by
    have hln : l.length = 3 := by rw [← List.length_map (f := (·.1)), hl]; rfl
    match l, hln, hl with
    | [x0, x1, x2], _, hl =>
      injection hl with h0 hl
      injection hl with h1 hl
      injection hl with h2 hl
      exact ⟨x0, x1, x2, rfl, h0, h1, h2⟩
  clear hl
  obtain ⟨p, cap, rfl, hp⟩ := hrow.shape
  obtain ⟨pp, rfl⟩ : ∃ pp, p = some pp := by
    obtain ⟨q, hq⟩ := hp (Nat.succ_pos _)
    exact ⟨_, hq⟩
  clear hp
  obtain ⟨P0, y0⟩ := x0
  obtain ⟨P1, y1⟩ := x1
  obtain ⟨P2, y2⟩ := x2
  have h0 : P0 = _ := h0
  have h1 : P1 = _ := h1
  have h2 : P2 = _ := h2
  subst h0 h1 h2
  have HROW : Hid (PkRow u2 u1.heap.size u1.heap.size (.slice (some pp) [(pcs SP 0 48 0, y0), (pcs SP 0 48 1, y1), (pcs SP 0 48 2, y2)].length cap) [(pcs SP 0 48 0, y0), (pcs SP 0 48 1, y1), (pcs SP 0 48 2, y2)]) := Hid.mk hrow
  clear hrow
  go_wp2_with (go_at_call 13; refine (HNW.out _).mono ?_; rintro e u3 ⟨⟨g, rfl, hg, sg⟩, hB3⟩; refine Hid.out ?_)
  refine Hid.mk ?_
  have HN2 : Hid (u2.heap.size ≤ u3.heap.size) := Hid.mk hB3.size
  have HSPR : Hid (Spares (fun k => k < u2.heap.size) u2 u3) := Hid.mk (spares_below hB3)
  have HBX := Hid.mk (box_new (B := 0) (N := fun k => k < u2.heap.size) sg (Nat.zero_le _) (by omega))
  have HBEL := Hid.mk (hB1.trans (hB2.mono hB1.size))
  have HWS : Hid (w.heap.size ≤ u2.heap.size) := Hid.mk HBEL.out.size
  have HR3 := Hid.mk (HROW.out.keep HN2.out (keep_spares HSPR.out (Nat.le_refl _)))
  have HFN : Hid (famOf 0 0 (pcs SP 0 48 0) ≠ []) := Hid.mk (fun e => by cases e)
  clear sg hg hB1 hB2 hB3
  have HX : Hid (∀ u, Spares (fun k => k < u2.heap.size) u2 u → ExAt u y0 SP.exts ∧ ExAt u y1 SP.exts ∧ ExAt u y2 SP.exts) := Hid.mk (fun u hs => by
    have k0 := ((HROW.out.exs _ (List.mem_cons_self)).away hs.size (keep_spares hs (Nat.le_refl _))).1
    have k1 := ((HROW.out.exs _ (List.mem_cons_of_mem _ (List.mem_cons_self))).away hs.size (keep_spares hs (Nat.le_refl _))).1
    have k2 := ((HROW.out.exs _ (List.mem_cons_of_mem _ (List.mem_cons_of_mem _ (List.mem_cons_self)))).away hs.size (keep_spares hs (Nat.le_refl _))).1
    rw [pcs_exts] at k0 k1 k2
    exact ⟨k0, k1, k2⟩)
  have HV : Hid ((∀ q, exK y0 = some q → q < u2.heap.size) ∧ (∀ q, exK y1 = some q → q < u2.heap.size) ∧ (∀ q, exK y2 = some q → q < u2.heap.size)) := Hid.mk ⟨fun q hq => ((HROW.out.exs _ (List.mem_cons_self)).2.2.1 q hq).2, fun q hq => ((HROW.out.exs _ (List.mem_cons_of_mem _ (List.mem_cons_self))).2.2.1 q hq).2, fun q hq => ((HROW.out.exs _ (List.mem_cons_of_mem _ (List.mem_cons_of_mem _ (List.mem_cons_self)))).2.2.1 q hq).2⟩
  have HTK := Hid.mk (fun (ks : List Nat) (k : Nat) (v : Value) (b : Bx) (mv : Value) (bg : Int) (cs : List Ch) (u : World) (hb : TwoAt b 0 (famOf 0 0 (pcs SP 0 48 0)) [] (ks.map (pcs SP 0 48)) []) (h1 : ks.Nodup) (h2 : ∀ k ∈ ks, k < 3) (h3 : k < 3) (h4 : k ∉ ks) (hB : BoxAt u 0 (fun k => k < u2.heap.size) g mv b bg cs) (hn : u2.heap.size ≤ u.heap.size) (hx : ExAt u v SP.exts) (hv : ∀ q, exK v = some q → q < u2.heap.size) (hbg : bg + 1 < 4611686018427387904) => stepT_run HC.out (by decide) (by decide) (now := 0) (t0 := 0) (e0 := 0) hb HFN.out (Int.le_refl _) (by decide) h1 h2 h3 h4 hB hn hx hv hbg)
  generalize hN : u2.heap.size = N at *
  have HU3 : Hid (N ≤ u3.heap.size) := HN2
  go_wp2_with (refine wl_value rfl (exec_lenK rfl rfl) ?_; refine Hid.out ?_)
  refine Hid.mk ?_
  go_wp2_with (refine wl_value rfl (exec_tg0 rfl) ?_; refine Hid.out ?_)
  refine Hid.mk ?_
  go_wp2_with (refine wl_value rfl (exec_ixK (i := 2) rfl rfl rfl (by decide)) ?_; refine Hid.out ?_)
  refine Hid.mk ?_
  go_wp2_with (refine wl_value rfl (exec_ld rfl rfl (row_pk HR3.out (i := 2) rfl)) ?_; refine Hid.out ?_)
  refine Hid.mk ?_
  go_wp2_with (go_at_call 17; refine (HTK.out [] 2 y2 noB _ _ _ _ (two_no _ _) (by decide) (by decide) (by decide) (by decide) HBX.out HU3.out (HX.out _ HSPR.out).2.2 HV.out.2.2 (by decide)).mono ?_; rintro e u4 ⟨Q1, v1, mv1, bg1, cs1, b1, rfl, ho1, _, hbx, htw, hbg1, hsp⟩; refine Hid.out ?_)
  refine Hid.mk ?_
  have HSPR2 := Hid.mk (HSPR.out.trans hsp)
  have HU4 : Hid (N ≤ u4.heap.size) := Hid.mk (Nat.le_trans HU3.out hsp.size)
  go_wp2_with (refine wl_alO rfl rfl zeroPk ?_; intro g4 u5 hg4 s4 hB4; refine Hid.out ?_)
  refine Hid.mk ?_
  go_wp2_with (refine st_stO (V := pkV Q1 v1) (g := g4) rfl rfl isPk (pkV_one ho1) s4 rfl rfl ?_; intro u6 s4 ho4; refine Hid.out ?_)
  refine Hid.mk ?_
  have HBX2 := Hid.mk (hbx.local hB4 hg4 ho4)
  have HSPR3 := Hid.mk (HSPR2.out.trans (Spares.local hB4 hg4 HU4.out ho4))
  have HU6 : Hid (N ≤ u6.heap.size) := Hid.mk (by have := HU4.out; have := hB4.size; have := ho4.size; omega)
  have HTW : Hid (TwoAt b1 0 (famOf 0 0 (pcs SP 0 48 0)) [] ([2].map (pcs SP 0 48)) []) := Hid.mk htw
  have HR6 := Hid.mk (HROW.out.keep (hN ▸ HU6.out) (hN ▸ keep_spares HSPR3.out (by rw [hN]; exact Nat.le_refl _)))
  have HBG : Hid (bg1 ≤ 1) := Hid.mk hbg1
  clear hbx htw hsp hB4 ho4 s4 hg4 hbg1 ho1 HBX
  go_wp2_with (refine wl_value rfl (exec_tg0 rfl) ?_; refine Hid.out ?_)
  refine Hid.mk ?_
  go_wp2_with (refine wl_value rfl (exec_ixK (i := 0) rfl rfl rfl (by decide)) ?_; refine Hid.out ?_)
  refine Hid.mk ?_
  go_wp2_with (refine wl_value rfl (exec_ld rfl rfl (row_pk HR6.out (i := 0) rfl)) ?_; refine Hid.out ?_)
  refine Hid.mk ?_
  go_wp2_with (go_at_call 17; refine (HTK.out [2] 0 y0 b1 _ _ _ _ HTW.out (by decide) (by decide) (by decide) (by decide) HBX2.out HU6.out (HX.out _ HSPR3.out).1 HV.out.1 (by have := HBG.out; omega)).mono ?_; rintro e u7 ⟨Q2, v2, mv2, bg2, cs2, b2, rfl, ho2, _, hbx, htw, hbg2, hsp⟩; refine Hid.out ?_)
  refine Hid.mk ?_
  have HSPR4 := Hid.mk (HSPR3.out.trans hsp)
  have HU7 : Hid (N ≤ u7.heap.size) := Hid.mk (Nat.le_trans HU6.out hsp.size)
  go_wp2_with (refine wl_alO rfl rfl zeroPk ?_; intro g5 u8 hg5 s5 hB5; refine Hid.out ?_)
  refine Hid.mk ?_
  go_wp2_with (refine st_stO (V := pkV Q2 v2) (g := g5) rfl rfl isPk (pkV_one ho2) s5 rfl rfl ?_; intro u9 s5 ho5; refine Hid.out ?_)
  refine Hid.mk ?_
  have HBX3 := Hid.mk (hbx.local hB5 hg5 ho5)
  have HSPR5 := Hid.mk (HSPR4.out.trans (Spares.local hB5 hg5 HU7.out ho5))
  have HU9 : Hid (N ≤ u9.heap.size) := Hid.mk (by have := HU7.out; have := hB5.size; have := ho5.size; omega)
  have HTW2 : Hid (TwoAt b2 0 (famOf 0 0 (pcs SP 0 48 0)) [] ([2, 0].map (pcs SP 0 48)) []) := Hid.mk htw
  have HHE2 : Hid (heldF b2.hs = 52) := Hid.mk (by rw [HTW2.out.held, HHE.out]; rfl)
  have HBG2 : Hid (bg2 ≤ 2) := Hid.mk (by have := HBG.out; omega)
  clear hbx htw hsp hB5 ho5 s5 hg5 hbg2 ho2 HBX2 HSPR3 HSPR4 HR6
  go_wp2_with (go_at_call 19; refine (Held_run HBX3.out).mono ?_; rintro e u10 ⟨rfl, hB6⟩; refine Hid.out ?_)
  refine Hid.mk ?_
  rw [HHE2.out]
  have HBX4 := Hid.mk (HBX3.out.kept hB6)
  have HSPR6 := Hid.mk (HSPR5.out.trans (spares_below hB6))
  have HU10 : Hid (N ≤ u10.heap.size) := Hid.mk (Nat.le_trans HU9.out hB6.size)
  have HR10 := Hid.mk (HROW.out.keep (hN ▸ HU10.out) (hN ▸ keep_spares HSPR6.out (by rw [hN]; exact Nat.le_refl _)))
  clear hB6 HBX3 HSPR5
  go_wp2_with (refine wl_value rfl (exec_tg0 rfl) ?_; refine Hid.out ?_)
  refine Hid.mk ?_
  go_wp2_with (refine wl_value rfl (exec_ixK (i := 1) rfl rfl rfl (by decide)) ?_; refine Hid.out ?_)
  refine Hid.mk ?_
  go_wp2_with (refine wl_value rfl (exec_ld rfl rfl (row_pk HR10.out (i := 1) rfl)) ?_; refine Hid.out ?_)
  refine Hid.mk ?_
  go_wp2_with (go_at_call 17; refine (HTK.out [2, 0] 1 y1 b2 _ _ _ _ HTW2.out (by decide) (by decide) (by decide) (by decide) HBX4.out HU10.out (HX.out _ HSPR6.out).2.1 HV.out.2.1 (by have := HBG2.out; omega)).mono ?_; rintro e u11 ⟨Q3, v3, mv3, bg3, cs3, b3, rfl, ho3, hq3, hbx, htw, hbg3, hsp⟩; refine Hid.out ?_)
  refine Hid.mk ?_
  obtain rfl : Q3 = SP := (hq3 rfl).1
  have HSPR7 := Hid.mk (HSPR6.out.trans hsp)
  have HU11 : Hid (N ≤ u11.heap.size) := Hid.mk (Nat.le_trans HU10.out hsp.size)
  go_wp2_with (refine wl_alO rfl rfl zeroPk ?_; intro g9 u12 hg9 s9 hB9; refine Hid.out ?_)
  refine Hid.mk ?_
  go_wp2_with (refine st_stO (V := pkV Q3 v3) (g := g9) rfl rfl isPk (pkV_one ho3) s9 rfl rfl ?_; intro u13 s9 ho9; refine Hid.out ?_)
  refine Hid.mk ?_
  have HBX5 := Hid.mk (hbx.local hB9 hg9 ho9)
  have HSPR8 := Hid.mk (HSPR7.out.trans (Spares.local hB9 hg9 HU11.out ho9))
  have HU13 : Hid (N ≤ u13.heap.size) := Hid.mk (by have := HU11.out; have := hB9.size; have := ho9.size; omega)
  have HLEN : Hid (b3.hs.length = 0) := Hid.mk (by rw [TwoAt.empty htw]; rfl)
  have HR13 := Hid.mk (HROW.out.keep (hN ▸ HU13.out) (hN ▸ keep_spares HSPR8.out (by rw [hN]; exact Nat.le_refl _)))
  have c45 := pk_pay s9
  have cof : u13.cell? { block := pp.block, off := pp.off + 46 + 38, spot := none } = some (.int .i64 48) := by
    have h := row_off HR13.out (i := 1) rfl
    rw [HOF.out] at h
    exact h
  clear hbx htw hsp hB9 ho9 s9 hg9 hbg3 ho3 HBX4 HSPR6 HSPR7 HR10 hq3
  have HWA := Hid.mk (Waiting_run HBX5.out)
  rw [HLEN.out] at HWA
  go_wp2_with (first | (refine wl_value rfl (exec_fpkL 13 45 (by decide) rfl rfl (by rfl)) ?_) | (refine wl_value rfl (exec_ld rfl (by rfl) (ldPs c45)) ?_) | (refine wl_value rfl (exec_lenSV HSZ.out rfl (by rfl)) ?_) | (refine wl_value rfl (exec_ixK (i := 1) rfl (by rfl) (by rfl) (by decide)) ?_) | (refine wl_value rfl (exec_fpkP rfl (by rfl)) ?_) | (refine wl_value rfl (exec_ld rfl (by rfl) (ldP cof)) ?_) | (go_at_call 18; refine HWA.out.mono ?_; rintro e u14 ⟨rfl, hB14⟩; refine Hid.out ?_))
  refine Hid.mk ?_
  go_wp2_with fail
  go_ret
  refine ⟨rfl, HBEL.out.trans ?_⟩
  have hs := HSPR8.out.trans (spares_below hB14)
  exact ⟨hs.os, hs.tape, hs.output, hs.size, fun k hk => hs.block k (by have := HWS.out; omega) (fun hn => hn (by have := HWS.out; omega))⟩
end Go.Proofs.Ythnlfjkpiohooaa
/-
  Own text. A packet, and a script of calls, as an argument.
-/
namespace Go.Proofs.Ythnlfjkpiohooaa
open Go.ChangeShapes Go.WideShapes Go.ChangeAt Go.WideMaps Go.WideElems Go.RowKit Go.Proofs
set_option maxRecDepth 100000
/-- What is known of a packet that was handed in. -/
structure PkIn (P : Pk) : Prop where
  n : P.exts.length * 24 ≤ 140737488351232
  b : ∀ x ∈ P.exts, x.body.size ≤ 140737488355328
  p : P.pay.size ≤ 140737488355328
theorem PkIn.len {P : Pk} (h : PkIn P) : P.exts.length < 4611686018427387904 := by have := h.n; omega
theorem laid13 : laidOutB Try.prog = true := by kernel_rfl
theorem cells8 : Try.prog.cellsOf 5 = 1 := by kernel_rfl
theorem tk1 {cs : List Value} {o : Nat} {x : Value} (h : (cs.drop o).take 1 = [x]) : cs[o]? = some x := by
  have h1 : ((cs.drop o).take 1)[0]? = some x := by rw [h]; rfl
  rw [List.getElem?_take, if_pos (by omega), List.getElem?_drop] at h1
  simpa using h1
theorem tkN {cs : List Value} {o n i : Nat} (hi : i < n) : ((cs.drop o).take n)[i]? = cs[o + i]? := by
  rw [List.getElem?_take, if_pos hi, List.getElem?_drop]
theorem sc_list {cs : List Value} {n : Nat} {V : Nat → Value} (hl : cs.length = n) (h : ∀ i, i < n → cs[i]? = some (V i)) : cs = (SC n V).toList := by
  apply List.ext_getElem?
  intro i
  by_cases hi : i < n
  · rw [h i hi, Array.getElem?_toList, SC_get n V i hi]
  · rw [List.getElem?_eq_none (by omega), List.getElem?_eq_none (by rw [Array.length_toList, SC_size]; omega)]
def kOf : Value → Int
  | .int .i64 k => k
  | _ => 0
def sOf : Value → ByteArray
  | .string s => s
  | _ => ByteArray.empty
theorem weightsAll_mem {H : Type} {P : Program} {e : TypeId} : ∀ {l : List (DataW H)} {d : DataW H}, d ∈ l → ∀ n ∈ d.weights P e, n ∈ DataW.weightsAll P e l
  | [], _, h, _, _ => by cases h
  | a :: l, d, h, n, hn => by
    unfold DataW.weightsAll
    rcases List.mem_cons.1 h with rfl | h
    · exact List.mem_append.2 (.inl hn)
    · exact List.mem_append.2 (.inr (weightsAll_mem h n hn))
theorem sized_all {H : Type} {P : Program} {ts : List TypeId} {ds : List (DataW H)} (h : (DataW.weightsEach P ts ds).all (· ≤ reachBytes) = true) {j : Nat} {t : TypeId} {d : DataW H} (ht : ts[j]? = some t) (hd : ds[j]? = some d) : ∀ n ∈ d.weights P t, n ≤ reachBytes := fun n hn => by
  simpa using List.all_eq_true.1 h n (DataW.weights_mem_each ht hd n hn)
section
variable {H : Type} {enc : TypeId × Value → H} {w : World} {base : Nat} {sp : Nat → Bool} {held : Bool} {fuel : Nat} {cs : List Value} {x : DataW H × List MemPlace}
theorem trod_16 (h : DataW.trod enc Try.prog w base sp held fuel 22 cs = some x) : ∃ b, Byts 16 b ∧ (∀ i, i < 16 → cs[i]? = some (.int .u8 (b i))) := by
  obtain ⟨xs, m, _, hx, _, hl, hel⟩ := DataW.trod_array Try.underlying22 h
  have key : ∀ i, i < 16 → ∃ k : Int, cs[i]? = some (.int .u8 k) ∧ (0 ≤ k ∧ k < 256) := fun i hi => by
    have hi' := hel i hi
    rw [cells8, Nat.mul_one] at hi'
    have hxs : i < xs.length := by omega
    rw [List.getElem?_eq_getElem hxs] at hi'
    obtain ⟨k, e1, e2, wk⟩ := DataW.trod_int Try.underlying5 hi'
    have := bounds_u8 wk
    exact ⟨k, tk1 e1, by omega⟩
  refine ⟨fun i => match cs[i]? with | some (.int .u8 k) => k | _ => 0, fun i hi => ?_, fun i hi => ?_⟩
  · obtain ⟨k, e, hk⟩ := key i hi
    simp only [e]
    exact hk
  · obtain ⟨k, e, hk⟩ := key i hi
    simp only [e]
theorem adF : ∃ f0 f1 : Field, Try.prog.underlying 24 = some (.struct #[f0, f1]) ∧ f0.type = 4 ∧ f1.type = 22 ∧ f0.offset = 0 ∧ f1.offset = 1 := ⟨_, _, Try.underlying24, rfl, rfl, rfl, rfl⟩
theorem cAd : Try.prog.cellsOf 24 = 17 := by kernel_rfl
theorem cBo : Try.prog.cellsOf 4 = 1 := by kernel_rfl
theorem cIn : Try.prog.cellsOf 3 = 1 := by kernel_rfl
theorem cSt : Try.prog.cellsOf 9 = 1 := by kernel_rfl
theorem cEs : Try.prog.cellsOf 25 = 1 := by kernel_rfl
theorem c16 : Try.prog.cellsOf 22 = 16 := by kernel_rfl
theorem cPk : Try.prog.cellsOf 27 = 46 := by kernel_rfl
theorem trod_ad (h : DataW.trod enc Try.prog w base sp held fuel 24 cs = some x) : ∃ v b, Byts 16 b ∧ (∀ i, i < 17 → cs[i]? = some (adV v b i)) := by
  obtain ⟨f0, f1, hu, e0, e1, o0, o1⟩ := adF
  obtain ⟨y0, y1, n, hx, hl, h0, h1⟩ := trod_struct2 hu h
  rw [e0, o0, cBo] at h0
  rw [e1, o1, c16] at h1
  obtain ⟨v, hv, hv2⟩ := DataW.trod_bool Try.underlying4 h0
  obtain ⟨b, hb, hbs⟩ := trod_16 h1
  refine ⟨v, b, hb, fun i hi => ?_⟩
  by_cases e : i < 1
  · obtain rfl : i = 0 := by omega
    exact tk1 hv
  · have := hbs (i - 1) (by omega)
    rw [tkN (by omega), show 1 + (i - 1) = i by omega] at this
    rw [this]
    unfold adV
    rw [if_neg e]
theorem exF : ∃ f0 f1 : Field, Try.prog.underlying 60 = some (.struct #[f0, f1]) ∧ f0.type = 3 ∧ f1.type = 9 ∧ f0.offset = 0 ∧ f1.offset = 1 := ⟨_, _, Try.underlying60, rfl, rfl, rfl, rfl⟩
theorem bytesEx : Try.prog.bytesOf 60 = 24 := by kernel_rfl
theorem open_exs (h : DataW.trod enc Try.prog w base sp held fuel 25 cs = some x) : ∃ vs l, cs = [vs] ∧ ExAt w vs l ∧ ((∀ n ∈ x.1.weights Try.prog 25, n ≤ reachBytes) → l.length * 24 ≤ reachBytes ∧ ∀ y ∈ l, y.body.size ≤ reachBytes) := by
  obtain ⟨f0, f1, hu, e0, e1, o0, o1⟩ := exF
  rcases Go.Deep.open_slice_pairs Try.underlying25 hu (by kernel_rfl) o0 o1 (by rw [e0]; exact cIn) (by rw [e1]; exact cSt) h with ⟨hcs, hx⟩ | ⟨a, len, cap, m, n, V0, V1, D0, D1, P0, P1, hcs, hb, hl, hm, hmm, hx, hcell⟩
  · exact ⟨_, [], hcs, ExAt.nil w, fun _ => ⟨Nat.zero_le _, fun y hy => by cases hy⟩⟩
  have hle : len ≤ m := by rw [hmm]; split <;> omega
  have each : ∀ i, i < len → V0 i = .int .i64 (kOf (V0 i)) ∧ V1 i = .string (sOf (V1 i)) ∧ D1 i = .lit (.string (sOf (V1 i)).data.toList) := fun i hi => by
    obtain ⟨_, _, t0, t1⟩ := hcell i (by omega)
    rw [e0] at t0
    rw [e1] at t1
    obtain ⟨k, q1, _, _⟩ := DataW.trod_int Try.underlying3 t0
    obtain ⟨s, q2, q3, _⟩ := DataW.trod_string Try.underlying9 t1
    injection q1 with q1
    injection q2 with q2
    injection q3 with q3
    rw [q1, q2, q3]
    exact ⟨rfl, rfl, rfl⟩
  have hat : ∀ j y, ((List.range len).map fun i => Ex.mk (kOf (V0 i)) (sOf (V1 i)))[j]? = some y → j < len ∧ y = ⟨kOf (V0 j), sOf (V1 j)⟩ := fun j y hj => by
    have hjl : j < len := by
      have := (List.getElem?_eq_some_iff.1 hj).1
      simpa using this
    rw [List.getElem?_map, List.getElem?_range hjl] at hj
    exact ⟨hjl, (Option.some.inj hj).symm⟩
  refine ⟨_, (List.range len).map fun i => ⟨kOf (V0 i), sOf (V1 i)⟩, hcs, ⟨some a, cap, by simp, fun j y hj => ?_⟩, fun hw => ⟨?_, fun y hy => ?_⟩⟩
  · obtain ⟨hjl, rfl⟩ := hat j y hj
    obtain ⟨t0, t1, _, _⟩ := hcell j (by omega)
    obtain ⟨q0, q1, _⟩ := each j hjl
    rw [q0, Nat.mul_comm] at t0
    rw [q1, Nat.mul_comm] at t1
    have hbk := World.block_lt_of_cell? w _ t0
    rw [add_blk] at hbk
    exact ⟨a, rfl, hbk, t0, t1⟩
  · have h1 := hw ((len + (m - len)) * 24) (by
      rw [hx]
      unfold DataW.weights
      rw [Try.underlying25]
      simp only [List.length_map, List.length_range]
      show _ ∈ (_ * Try.prog.bytesOf 60) :: _
      rw [bytesEx]
      exact List.mem_cons_self ..)
    simp only [List.length_map, List.length_range]
    omega
  · obtain ⟨i, hi, rfl⟩ := List.mem_map.1 hy
    have hil : i < len := List.mem_range.1 hi
    obtain ⟨_, _, q3⟩ := each i hil
    refine hw (sOf (V1 i)).size ?_
    rw [hx]
    unfold DataW.weights
    rw [Try.underlying25]
    refine List.mem_cons_of_mem _ (List.mem_append.2 (.inl (weightsAll_mem (d := .agg [D0 i, D1 i]) (List.mem_map.2 ⟨i, hi, rfl⟩) _ ?_)))
    unfold DataW.weights
    rw [hu]
    show _ ∈ DataW.weightsEach Try.prog [f0.type, f1.type] [D0 i, D1 i]
    unfold DataW.weightsEach
    refine List.mem_append.2 (.inr ?_)
    unfold DataW.weightsEach
    refine List.mem_append.2 (.inl ?_)
    rw [q3]
    unfold DataW.weights
    exact List.mem_singleton.2 rfl
theorem pkF : ∃ f0 f1 f2 f3 f4 f5 f6 f7 f8 f9 f10 f11 f12 f13 : Field, Try.prog.underlying 27 = some (.struct #[f0, f1, f2, f3, f4, f5, f6, f7, f8, f9, f10, f11, f12, f13]) ∧ f0.type = 24 ∧ f0.offset = 0 ∧ f1.type = 24 ∧ f1.offset = 17 ∧ f2.type = 3 ∧ f2.offset = 34 ∧ f3.type = 3 ∧ f3.offset = 35 ∧ f4.type = 3 ∧ f4.offset = 36 ∧ f5.type = 3 ∧ f5.offset = 37 ∧ f6.type = 3 ∧ f6.offset = 38 ∧ f7.type = 4 ∧ f7.offset = 39 ∧ f8.type = 4 ∧ f8.offset = 40 ∧ f9.type = 9 ∧ f9.offset = 41 ∧ f10.type = 3 ∧ f10.offset = 42 ∧ f11.type = 25 ∧ f11.offset = 43 ∧ f12.type = 4 ∧ f12.offset = 44 ∧ f13.type = 9 ∧ f13.offset = 45 := ⟨_, _, _, _, _, _, _, _, _, _, _, _, _, _, Try.underlying27, rfl, rfl, rfl, rfl, rfl, rfl, rfl, rfl, rfl, rfl, rfl, rfl, rfl, rfl, rfl, rfl, rfl, rfl, rfl, rfl, rfl, rfl, rfl, rfl, rfl, rfl, rfl, rfl⟩
/-- A packet's cells. -/
theorem trod_pk (h : DataW.trod enc Try.prog w base sp held fuel 27 cs = some x) : ∃ P vs, (∀ i, i < 46 → cs[i]? = some (pkV P vs i)) ∧ ExAt w vs P.exts ∧ ((∀ n ∈ x.1.weights Try.prog 27, n ≤ reachBytes) → PkIn P) := by
  obtain ⟨f0, f1, f2, f3, f4, f5, f6, f7, f8, f9, f10, f11, f12, f13, hu, e0, o0, e1, o1, e2, o2, e3, o3, e4, o4, e5, o5, e6, o6, e7, o7, e8, o8, e9, o9, e10, o10, e11, o11, e12, o12, e13, o13⟩ := pkF
  obtain ⟨xs, n', _, hxx, hl, hxl, hff⟩ := DataW.trod_struct hu h
  rw [cPk] at hl
  obtain ⟨y0, y1, y2, y3, y4, y5, y6, y7, y8, y9, y10, y11, y12, y13, rfl⟩ : ∃ y0 y1 y2 y3 y4 y5 y6 y7 y8 y9 y10 y11 y12 y13, xs = [y0, y1, y2, y3, y4, y5, y6, y7, y8, y9, y10, y11, y12, y13] := by
    match xs, hxl with
    | [c0, c1, c2, c3, c4, c5, c6, c7, c8, c9, c10, c11, c12, c13], _ => exact ⟨_, _, _, _, _, _, _, _, _, _, _, _, _, _, rfl⟩
  have g0 := hff 0 f0 rfl
  rw [e0, o0, cAd] at g0
  have g1 := hff 1 f1 rfl
  rw [e1, o1, cAd] at g1
  have g2 := hff 2 f2 rfl
  rw [e2, o2, cIn] at g2
  have g3 := hff 3 f3 rfl
  rw [e3, o3, cIn] at g3
  have g4 := hff 4 f4 rfl
  rw [e4, o4, cIn] at g4
  have g5 := hff 5 f5 rfl
  rw [e5, o5, cIn] at g5
  have g6 := hff 6 f6 rfl
  rw [e6, o6, cIn] at g6
  have g7 := hff 7 f7 rfl
  rw [e7, o7, cBo] at g7
  have g8 := hff 8 f8 rfl
  rw [e8, o8, cBo] at g8
  have g9 := hff 9 f9 rfl
  rw [e9, o9, cSt] at g9
  have g10 := hff 10 f10 rfl
  rw [e10, o10, cIn] at g10
  have g11 := hff 11 f11 rfl
  rw [e11, o11, cEs] at g11
  have g12 := hff 12 f12 rfl
  rw [e12, o12, cBo] at g12
  have g13 := hff 13 f13 rfl
  rw [e13, o13, cSt] at g13
  obtain ⟨sv, sb, hsb, hs⟩ := trod_ad g0
  obtain ⟨dv, db, hdb, hd⟩ := trod_ad g1
  obtain ⟨pr, h2, _, _⟩ := DataW.trod_int Try.underlying3 g2
  obtain ⟨ho, h3, _, _⟩ := DataW.trod_int Try.underlying3 g3
  obtain ⟨cl, h4, _, _⟩ := DataW.trod_int Try.underlying3 g4
  obtain ⟨id, h5, _, _⟩ := DataW.trod_int Try.underlying3 g5
  obtain ⟨off, h6, _, _⟩ := DataW.trod_int Try.underlying3 g6
  obtain ⟨fl, h10, _, _⟩ := DataW.trod_int Try.underlying3 g10
  obtain ⟨mo, h7, _⟩ := DataW.trod_bool Try.underlying4 g7
  obtain ⟨st, h8, _⟩ := DataW.trod_bool Try.underlying4 g8
  obtain ⟨cu, h12, _⟩ := DataW.trod_bool Try.underlying4 g12
  obtain ⟨op, h9, _, _⟩ := DataW.trod_string Try.underlying9 g9
  obtain ⟨py, h13, k13, _⟩ := DataW.trod_string Try.underlying9 g13
  obtain ⟨vs, l, h11, hE, hwt⟩ := open_exs g11
  have hx1 := congrArg Prod.fst hxx
  refine ⟨⟨sv, sb, dv, db, pr, ho, cl, id, off, mo, st, op, fl, l, cu, py⟩, vs, ?_, hE, fun hw => ?_⟩
  · intro i hi
    unfold pkV
    by_cases c1 : i < 17
    · have := hs i c1
      rw [tkN c1, Nat.zero_add] at this
      rw [if_pos c1]
      exact this
    · by_cases c2 : i < 34
      · have := hd (i - 17) (by omega)
        rw [tkN (by omega), show 17 + (i - 17) = i by omega] at this
        rw [if_neg c1, if_pos c2]
        exact this
      · rw [if_neg c1, if_neg c2]
        obtain ⟨j, rfl⟩ : ∃ j, i = 34 + j := ⟨i - 34, by omega⟩
        rw [Nat.add_sub_cancel_left]
        match j, (show j < 12 by omega) with
        | 0, _ => exact tk1 h2
        | 1, _ => exact tk1 h3
        | 2, _ => exact tk1 h4
        | 3, _ => exact tk1 h5
        | 4, _ => exact tk1 h6
        | 5, _ => exact tk1 h7
        | 6, _ => exact tk1 h8
        | 7, _ => exact tk1 h9
        | 8, _ => exact tk1 h10
        | 9, _ => exact tk1 h11
        | 10, _ => exact tk1 h12
        | 11, _ => exact tk1 h13
  · have mem : ∀ (j : Nat) (t : TypeId) (dd : DataW H), ([f0.type, f1.type, f2.type, f3.type, f4.type, f5.type, f6.type, f7.type, f8.type, f9.type, f10.type, f11.type, f12.type, f13.type] : List TypeId)[j]? = some t → ([y0.1, y1.1, y2.1, y3.1, y4.1, y5.1, y6.1, y7.1, y8.1, y9.1, y10.1, y11.1, y12.1, y13.1] : List (DataW H))[j]? = some dd → ∀ n ∈ dd.weights Try.prog t, n ≤ reachBytes := fun j t dd ht hdd n hn => by
      refine hw n ?_
      rw [hx1]
      unfold DataW.weights
      rw [hu]
      exact DataW.weights_mem_each (j := j) ht hdd n hn
    have m11 := hwt (fun n hn => mem 11 _ _ (by rw [← e11]; rfl) rfl n hn)
    have m13 := mem 13 9 y13.1 (by rw [← e13]; rfl) rfl py.size (by
      rw [k13]
      unfold DataW.weights
      exact List.mem_singleton.2 rfl)
    have hr : reachBytes = 140737488351232 := rfl
    rw [hr] at m11 m13
    exact ⟨m11.1, fun x hx => by have := m11.2 x hx; omega, by show py.size ≤ _; omega⟩
end
section
variable {H : Type} {enc : TypeId × Value → H} {W : World} {base : Nat} {sp : Nat → Bool} {v : Value} {d : DataW H} {p : List MemPlace}
/-- An argument that is a packet. -/
theorem open_pk (hv : Value.okWide Try.prog W .any base 27 v) (h : DataW.Trod enc Try.prog W 0 sp true 27 v d p) : ∃ P vs, v = .agg (SC 46 (pkV P vs)) ∧ ExAt W vs P.exts ∧ ((∀ n ∈ d.weights Try.prog 27, n ≤ reachBytes) → PkIn P) := by
  obtain ⟨cs, rfl, hsz, _⟩ : ∃ cs, v = .agg cs ∧ cs.size = Try.prog.cellsOf 27 ∧ Row.okWide Try.prog W .any base 27 cs := by
    simpa [Value.okWide, Try.underlying27] using hv
  obtain ⟨fuel, hf⟩ := h
  obtain ⟨P, vs, h1, h2, h3⟩ := trod_pk hf
  rw [cPk] at hsz
  exact ⟨P, vs, congrArg Value.agg (Array.toList_inj.1 (sc_list (by simpa using hsz) h1)), h2, h3⟩
end
/-- One call of the script. -/
structure Op14 where
  tick : Bool
  now : Int
  t0 : Int
  e0 : Int
  P : Pk
  v : Value
def opV14 (X : Op14) (j : Nat) : Value := if j < 1 then .bool X.tick else if j < 2 then .int .i64 X.now else if j < 4 then tgV X.t0 X.e0 (j - 2) else pkV X.P X.v (j - 4)
def OpsAt14 (w : World) (vs : Value) (n : Nat) (X : Nat → Op14) : Prop := ∃ p cap, vs = .slice p n cap ∧ ∀ j, j < n → ∃ ad : Addr, p = some ad ∧ ad.block < w.heap.size ∧ (∀ k, k < 50 → w.cell? (ad.add (50 * j + k)) = some (opV14 (X j) k)) ∧ ExAt w (X j).v (X j).P.exts
theorem tgFd : ∃ f0 f1 : Field, Try.prog.underlying 45 = some (.struct #[f0, f1]) ∧ f0.type = 3 ∧ f1.type = 3 ∧ f0.offset = 0 ∧ f1.offset = 1 := ⟨_, _, Try.underlying45, rfl, rfl, rfl, rfl⟩
theorem cTg : Try.prog.cellsOf 45 = 2 := by kernel_rfl
section
variable {H : Type} {enc : TypeId × Value → H} {w : World} {base : Nat} {sp : Nat → Bool} {held : Bool} {fuel : Nat} {cs : List Value} {x : DataW H × List MemPlace}
theorem trod_tg (h : DataW.trod enc Try.prog w base sp held fuel 45 cs = some x) : ∃ a e, ∀ i, i < 2 → cs[i]? = some (tgV a e i) := by
  obtain ⟨f0, f1, hu, e0, e1, o0, o1⟩ := tgFd
  obtain ⟨y0, y1, n, hx, hl, h0, h1⟩ := trod_struct2 hu h
  rw [e0, o0, cIn] at h0
  rw [e1, o1, cIn] at h1
  obtain ⟨a, ha, _, _⟩ := DataW.trod_int Try.underlying3 h0
  obtain ⟨e, he, _, _⟩ := DataW.trod_int Try.underlying3 h1
  refine ⟨a, e, fun i hi => ?_⟩
  match i, hi with
  | 0, _ => exact tk1 ha
  | 1, _ => exact tk1 he
end
theorem opFd : ∃ f0 f1 f2 f3 : Field, Try.prog.underlying 53 = some (.struct #[f0, f1, f2, f3]) ∧ f0.type = 4 ∧ f1.type = 3 ∧ f2.type = 45 ∧ f3.type = 27 ∧ f0.offset = 0 ∧ f1.offset = 1 ∧ f2.offset = 2 ∧ f3.offset = 4 := ⟨_, _, _, _, Try.underlying53, rfl, rfl, rfl, rfl, rfl, rfl, rfl, rfl⟩
section
variable {H : Type} {enc : TypeId × Value → H} {W : World} {base : Nat} {sp : Nat → Bool} {v : Value} {d : DataW H} {p : List MemPlace}
set_option maxHeartbeats 4000000 in
/-- An argument that is a script. -/
theorem open_ops14 (hv : Value.okWide Try.prog W .any base 51 v) (h : DataW.Trod enc Try.prog W 0 sp true 51 v d p) (hsz : ∀ x ∈ d.weights Try.prog 51, x ≤ reachBytes) : ∃ n X, OpsAt14 W v n X ∧ n ≤ reachBytes ∧ ∀ j, j < n → PkIn (X j).P := by
  obtain ⟨a, len, cap, rfl⟩ := okWide_slice Try.underlying51 hv
  obtain ⟨fuel, hf⟩ := h
  rcases Go.Deep.open_slice Try.underlying51 hf with ⟨hcs, _⟩ | ⟨ad, len', cap', m, n, D, Pl, hcs, _, hl, hm, hz, hxd, hcell⟩
  · simp [Value.cells] at hcs
    obtain ⟨rfl, rfl, rfl⟩ := hcs
    exact ⟨0, fun _ => ⟨false, 0, 0, 0, zeroP, .slice none 0 0⟩, ⟨none, 0, rfl, fun j h => by omega⟩, Nat.zero_le _, fun j h => by omega⟩
  · simp [Value.cells] at hcs
    obtain ⟨rfl, rfl, rfl⟩ := hcs
    have hle : len ≤ m := by rw [hz]; split <;> omega
    have hc2 : Try.prog.cellsOf 53 = 50 := by kernel_rfl
    rw [hc2] at hcell
    obtain ⟨rfl, _⟩ := Prod.mk.inj hxd
    have hb : Try.prog.bytesOf 53 = 192 := by kernel_rfl
    have hlen : len ≤ reachBytes := by
      have h1 := hsz ((len + (m - len)) * 192) (by
        unfold DataW.weights
        rw [Try.underlying51]
        simp only [List.length_map, List.length_range]
        show _ ∈ (_ * Try.prog.bytesOf 53) :: _
        rw [hb]
        exact List.mem_cons_self ..)
      omega
    have hall : ∀ i, i < len → ∀ x ∈ (D i).weights Try.prog 53, x ≤ reachBytes := fun i hi x hx => hsz x (by
      simp only [DataW.weights, Try.underlying51, List.mem_cons, List.mem_append]
      exact .inr (.inl (weightsAll_mem (List.mem_map.2 ⟨i, List.mem_range.2 hi, rfl⟩) x hx)))
    have each : ∀ i, i < len → ∃ X : Op14, (∀ k, k < 50 → W.cell? (ad.add (50 * i + k)) = some (opV14 X k)) ∧ ExAt W X.v X.P.exts ∧ PkIn X.P := fun i hi => by
      obtain ⟨cs', h1, h2⟩ := hcell i (by omega)
      have hw := hall i hi
      generalize D i = di at *
      obtain ⟨_, hlen, hc⟩ := World.cells?_some h1
      obtain ⟨f0, f1, f2, f3, hu, e0, e1, e2, e3, o0, o1, o2, o3⟩ := opFd
      obtain ⟨xs, n', _, hxx, _, hxl, hff⟩ := DataW.trod_struct hu h2
      obtain ⟨y0, y1, y2, y3, rfl⟩ : ∃ y0 y1 y2 y3, xs = [y0, y1, y2, y3] := by
        match xs, hxl with
        | [c0, c1, c2, c3], _ => exact ⟨_, _, _, _, rfl⟩
      obtain ⟨rfl, _⟩ := Prod.mk.inj hxx
      have g0 := hff 0 f0 rfl
      rw [e0, o0, cBo] at g0
      obtain ⟨z0, k0, _⟩ := DataW.trod_bool Try.underlying4 g0
      have g1 := hff 1 f1 rfl
      rw [e1, o1, cIn] at g1
      obtain ⟨z1, k1, _, _⟩ := DataW.trod_int Try.underlying3 g1
      have g2 := hff 2 f2 rfl
      rw [e2, o2, cTg] at g2
      obtain ⟨ta, te, k2⟩ := trod_tg g2
      have g3 := hff 3 f3 rfl
      rw [e3, o3, cPk] at g3
      obtain ⟨P, vs, k3, hE, hP⟩ := trod_pk g3
      refine ⟨⟨z0, z1, ta, te, P, vs⟩, fun k hk => ?_, hE, hP (fun n hn => hw n ?_)⟩
      · have := hc k (by omega)
        rw [Addr.add_add] at this
        rw [Nat.mul_comm 50 i, this]
        unfold opV14
        by_cases q0 : k < 1
        · obtain rfl : k = 0 := by omega
          rw [if_pos q0]
          exact tk1 k0
        · rw [if_neg q0]
          by_cases q1 : k < 2
          · obtain rfl : k = 1 := by omega
            rw [if_pos q1]
            exact tk1 k1
          · rw [if_neg q1]
            by_cases q2 : k < 4
            · rw [if_pos q2]
              have := k2 (k - 2) (by omega)
              rw [tkN (by omega), show 2 + (k - 2) = k by omega] at this
              exact this
            · rw [if_neg q2]
              have := k3 (k - 4) (by omega)
              rw [tkN (by omega), show 4 + (k - 4) = k by omega] at this
              exact this
      · simp only [DataW.weights, hu]
        exact DataW.weights_mem_each (j := 3) (t := 27) (d := y3.1) (by simp [e3]) rfl n hn
    refine ⟨len, fun i => if h : i < len then (each i h).choose else ⟨false, 0, 0, 0, zeroP, .slice none 0 0⟩, ⟨some ad, cap, rfl, fun j hj => ?_⟩, hlen, fun j hj => ?_⟩
    · have h0 := (each j hj).choose_spec
      simp only [dif_pos hj]
      refine ⟨ad, rfl, ?_, h0.1, h0.2.1⟩
      have := World.block_lt_of_cell? _ _ (h0.1 0 (by omega))
      rwa [add_blk] at this
    · simp only [dif_pos hj]
      exact (each j hj).choose_spec.2.2
end
end Go.Proofs.Ythnlfjkpiohooaa
