/-
  Own text. Pieces of packets as plain data: what a heap of them is, and what it tells. Names no function of the program.
-/
import Derived.Test.YthnlfjkpiohooaaJ2
import Derived.Test.YthnlfjkpiohooaaJ1
import Derived.Tactics
import Derived.Maps.RangeRun
namespace Go.Proofs.Ythnlfjkpiohooaa
open Go.RowKit Go.Proofs
set_option maxRecDepth 100000
def b2I (b : Bool) : Int := if b = true then 1 else 0
abbrev Fam := List Int
def famL (a e : Int) (sv : Bool) (sb : Nat → Int) (dv : Bool) (db : Nat → Int) (p i : Int) : Fam := a :: e :: b2I sv :: ((List.range 16).map sb ++ (b2I dv :: ((List.range 16).map db ++ [p, i])))
def famOf (a e : Int) (P : Pk) : Fam := famL a e P.sv P.sb P.dv P.db P.proto P.id
theorem map16 {s r : Nat → Int} : (List.range 16).map s = (List.range 16).map r ↔ ∀ i, i < 16 → s i = r i := by
  rw [List.map_inj_left]
  exact ⟨fun h i hi => h i (List.mem_range.2 hi), fun h i hi => h i (List.mem_range.1 hi)⟩
theorem b2I_inj {a b : Bool} : b2I a = b2I b ↔ a = b := by cases a <;> cases b <;> simp [b2I]
theorem famL_inj {a e a' e' p i p' i' : Int} {sv sv' dv dv' : Bool} {sb sb' db db' : Nat → Int} : famL a e sv sb dv db p i = famL a' e' sv' sb' dv' db' p' i' ↔ a = a' ∧ e = e' ∧ sv = sv' ∧ (∀ i, i < 16 → sb i = sb' i) ∧ dv = dv' ∧ (∀ i, i < 16 → db i = db' i) ∧ p = p' ∧ i = i' := by
  unfold famL
  constructor
  · intro h
    injection h with h1 h
    injection h with h2 h
    injection h with h3 h
    obtain ⟨h4, h⟩ := List.append_inj h (by simp)
    injection h with h5 h
    obtain ⟨h6, h⟩ := List.append_inj h (by simp)
    injection h with h7 h
    injection h with h8 h
    exact ⟨h1, h2, b2I_inj.1 h3, map16.1 h4, b2I_inj.1 h5, map16.1 h6, h7, h8⟩
  · rintro ⟨rfl, rfl, rfl, h4, rfl, h6, rfl, rfl⟩
    rw [map16.2 h4, map16.2 h6]
/-- Where a piece ends. -/
def enP (P : Pk) : Int := P.off + (P.pay.size : Int)
/-- A packet that is whole, without the marks of a piece. -/
def bareP (P : Pk) : Pk := { P with off := 0, more := false, cut := false, id := if P.sv = true then 0 else P.id }
def withPay (P : Pk) (t : ByteArray) : Pk := { P with pay := t }
def meetP (P Q : Pk) : Bool := decide (P.off < enP Q) && decide (Q.off < enP P)
def badP (P Q : Pk) : Bool := meetP P Q || (!Q.more && (!P.more || decide (enP Q < enP P))) || (!P.more && decide (enP P < enP Q))
def clash (l : List Pk) (P : Pk) : Bool := decide (64 ≤ l.length) || l.any (badP P)
def sameQ (P Q : Pk) : Bool := decide (Q.off = P.off) && (Q.more == P.more) && decide (Q.pay = P.pay)
def hasSame (l : List Pk) (P : Pk) : Bool := l.any (sameQ P)
def chain : Nat → List Pk → Int → Pk → ByteArray → Option Pk
  | 0, _, _, _, _ => none
  | n + 1, l, e, out, t =>
    match l.find? (fun q => decide (q.off = e)) with
    | none => none
    | some q => if q.more = false then some (bareP (withPay (if e = 0 then q else out) (t ++ q.pay))) else chain n l (enP q) (if e = 0 then q else out) (t ++ q.pay)
def wholeM (l : List Pk) : Option Pk := chain 65536 l 0 zeroP ByteArray.empty
/-- What every piece that is kept is. -/
def PcOk (P : Pk) : Prop := 0 ≤ P.off ∧ 0 < P.pay.size ∧ enP P ≤ 65535 ∧ (P.more = true → P.pay.size % 8 = 0)
/-- Two pieces of one packet. -/
def Mates (P Q : Pk) : Prop := (enP P ≤ Q.off ∨ enP Q ≤ P.off) ∧ (P.more = false → Q.more = true ∧ enP Q ≤ enP P) ∧ (Q.more = false → P.more = true ∧ enP P ≤ enP Q)
theorem Mates.symm {P Q : Pk} (h : Mates P Q) : Mates Q P := ⟨h.1.symm, h.2.2, h.2.1⟩
def OkL (l : List Pk) : Prop := (∀ P ∈ l, PcOk P) ∧ l.Pairwise Mates
theorem OkL.perm {l m : List Pk} (h : OkL l) (hp : l.Perm m) : OkL m := ⟨fun P hP => h.1 P (hp.mem_iff.2 hP), (hp.pairwise_iff (fun h => Mates.symm h)).1 h.2⟩
theorem bad_mates {P Q : Pk} : badP P Q = false ↔ Mates P Q := by
  unfold badP meetP Mates
  cases P.more <;> cases Q.more <;> simp <;> omega
theorem OkL.snoc {l : List Pk} {P : Pk} (h : OkL l) (hP : PcOk P) (hc : clash l P = false) : OkL (l ++ [P]) := by
  unfold clash at hc
  rw [Bool.or_eq_false_iff] at hc
  refine ⟨fun Q hQ => ?_, ?_⟩
  · rcases List.mem_append.1 hQ with h1 | h1
    · exact h.1 Q h1
    · rw [List.mem_singleton.1 h1]; exact hP
  · rw [List.pairwise_append]
    refine ⟨h.2, List.pairwise_singleton _ _, fun Q hQ R hR => ?_⟩
    rw [List.mem_singleton.1 hR]
    have := List.any_eq_false.1 hc.2 Q hQ
    exact (bad_mates.1 (by simpa using this)).symm
theorem OkL.one {P : Pk} (hP : PcOk P) : OkL [P] := ⟨fun Q hQ => by rw [List.mem_singleton.1 hQ]; exact hP, List.pairwise_singleton _ _⟩
/-- In order. -/
def Sor (S : List Pk) : Prop := S.Pairwise (fun P Q => P.off < Q.off)
theorem OkL.off_ne {l : List Pk} (h : OkL l) : l.Pairwise (fun P Q => P.off ≠ Q.off) := by
  refine List.Pairwise.imp_of_mem (fun {P Q} hP hQ hm e => ?_) h.2
  have a := h.1 P hP
  have b := h.1 Q hQ
  unfold PcOk at a b
  unfold Mates at hm
  unfold enP at hm a b
  omega
theorem sor_next {S : List Pk} (h : OkL S) (hs : Sor S) : S.Pairwise (fun P Q => enP P ≤ Q.off) := by
  unfold Sor at hs
  have h2 := List.pairwise_and_iff.2 ⟨h.2, hs⟩
  refine List.Pairwise.imp_of_mem (fun {P Q} hP hQ hm => ?_) h2
  have b := h.1 Q hQ
  unfold PcOk at b
  unfold Mates enP at *
  omega
/-- Do pieces in order go on from e without a gap? -/
def fullS : List Pk → Int → Bool
  | [], _ => true
  | p :: r, e => decide (p.off = e) && fullS r (enP p)
def joinS : List Pk → ByteArray
  | [] => ByteArray.empty
  | p :: r => p.pay ++ joinS r
def moreS : List Pk → Bool
  | [] => true
  | [p] => p.more
  | _ :: q :: r => moreS (q :: r)
theorem find_uniq {l m : List Pk} (h : OkL l) (hp : l.Perm m) (e : Int) : l.find? (fun q => decide (q.off = e)) = m.find? (fun q => decide (q.off = e)) := by
  have key : ∀ {l : List Pk}, l.Pairwise (fun P Q => P.off ≠ Q.off) → ∀ q, l.find? (fun q => decide (q.off = e)) = some q ↔ q ∈ l ∧ q.off = e := by
    intro l hl q
    induction l with
    | nil => simp
    | cons a l ih =>
      rw [List.pairwise_cons] at hl
      have ih := ih hl.2
      by_cases ha : a.off = e
      · rw [List.find?_cons_of_pos (by simpa using ha)]
        constructor
        · intro h1; cases h1; exact ⟨by simp, ha⟩
        · rintro ⟨h1, h2⟩
          rcases List.mem_cons.1 h1 with h3 | h3
          · rw [h3]
          · exact absurd (ha.trans h2.symm) (hl.1 q h3)
      · rw [List.find?_cons_of_neg (by simpa using ha), ih]
        constructor
        · rintro ⟨h1, h2⟩; exact ⟨by simp [h1], h2⟩
        · rintro ⟨h1, h2⟩
          rcases List.mem_cons.1 h1 with h3 | h3
          · exact absurd (h3 ▸ h2) ha
          · exact ⟨h3, h2⟩
  have k1 := key h.off_ne
  have k2 := key (h.perm hp).off_ne
  cases h1 : l.find? (fun q => decide (q.off = e)) with
  | none =>
    cases h2 : m.find? (fun q => decide (q.off = e)) with
    | none => rfl
    | some q =>
      have := (k2 q).1 h2
      rw [(k1 q).2 ⟨hp.mem_iff.2 this.1, this.2⟩] at h1
      cases h1
  | some q =>
    have := (k1 q).1 h1
    rw [(k2 q).2 ⟨hp.mem_iff.1 this.1, this.2⟩]
theorem chain_perm {l m : List Pk} (h : OkL l) (hp : l.Perm m) : ∀ n e out t, chain n l e out t = chain n m e out t
  | 0, _, _, _ => rfl
  | n + 1, e, out, t => by
    unfold chain
    rw [find_uniq h hp e]
    cases m.find? (fun q => decide (q.off = e)) with
    | none => rfl
    | some q => simp only [chain_perm h hp n]
theorem chain_sorted : ∀ (B A : List Pk) (n : Nat) (e : Int) (out : Pk) (t : ByteArray), OkL (A ++ B) → Sor (A ++ B) → (∀ P ∈ A, enP P ≤ e) → (∀ P ∈ B, e ≤ P.off) → 65535 < e + (n : Int) → (e = 0 → A = []) →
    chain n (A ++ B) e out t = if B ≠ [] ∧ fullS B e = true ∧ moreS B = false then some (bareP (withPay (if e = 0 then B.headD zeroP else out) (t ++ joinS B))) else none
  | [], A, n, e, out, t, hok, hs, hA, hB, hn, h0 => by
    rw [if_neg (by simp)]
    cases n with
    | zero => rfl
    | succ n =>
      unfold chain
      have hf : (A ++ ([] : List Pk)).find? (fun q => decide (q.off = e)) = none := ?_
      · rw [hf]
      rw [List.find?_eq_none]
      intro P hP
      rw [List.append_nil] at hP
      have a := hok.1 P (by simpa using hP)
      have b := hA P hP
      unfold PcOk at a
      unfold enP at *
      simp
      omega
  | p :: B, A, n, e, out, t, hok, hs, hA, hB, hn, h0 => by
    have hp := hok.1 p (by simp)
    have hpe := hB p (by simp)
    have hnx := sor_next hok hs
    rw [List.pairwise_append] at hnx
    have hnB := hnx.2.1
    rw [List.pairwise_cons] at hnB
    cases n with
    | zero => unfold PcOk at hp; unfold enP at hp; omega
    | succ n =>
      by_cases he : p.off = e
      · unfold chain
        have hf : (A ++ p :: B).find? (fun q => decide (q.off = e)) = some p := by
          rw [List.find?_append, List.find?_eq_none.2, Option.none_or, List.find?_cons_of_pos (by simpa using he)]
          intro P hP
          have a := hok.1 P (by simp [hP])
          have b := hA P hP
          unfold PcOk at a
          unfold enP at *
          simp
          omega
        rw [hf]
        simp only
        have hfull : fullS (p :: B) e = fullS B (enP p) := by show (decide (p.off = e) && fullS B (enP p)) = _; simp [he]
        rw [hfull]
        by_cases hm : p.more = false
        · have hBn : B = [] := by
            cases B with
            | nil => rfl
            | cons q B =>
              exfalso
              have h1 := hnB.1 q (by simp)
              have h2 := hok.2
              rw [List.pairwise_append] at h2
              have h3 := (List.pairwise_cons.1 h2.2.1).1 q (by simp)
              have h4 := hok.1 q (by simp)
              unfold PcOk at h4
              have h5 := (h3.2.1 hm).2
              unfold enP at *
              omega
          subst hBn
          have hj : joinS [p] = p.pay := by show p.pay ++ ByteArray.empty = _; exact ByteArray.append_empty
          rw [if_pos hm, if_pos (show [p] ≠ [] ∧ fullS [] (enP p) = true ∧ moreS [p] = false from ⟨by simp, rfl, hm⟩), hj]
          rfl
        · rw [if_neg hm]
          have hm' : p.more = true := by simpa using hm
          have h1 : A ++ p :: B = (A ++ [p]) ++ B := by simp
          have hgt : e < enP p := by unfold PcOk at hp; unfold enP; omega
          have ih := chain_sorted B (A ++ [p]) n (enP p) (if e = 0 then p else out) (t ++ p.pay) (h1 ▸ hok) (h1 ▸ hs) (fun P hP => by
            rcases List.mem_append.1 hP with h | h
            · have := hA P h; omega
            · rw [List.mem_singleton.1 h]; omega) (fun P hP => hnB.1 P hP) (by unfold enP at hgt ⊢; omega) (by intro h; unfold PcOk at hp; omega)
          rw [h1, ih]
          have hne : ¬ enP p = 0 := by unfold PcOk at hp; omega
          rw [if_neg hne]
          cases B with
          | nil => simp [moreS, hm']
          | cons q B =>
            have : moreS (p :: q :: B) = moreS (q :: B) := rfl
            rw [this]
            have hj : t ++ p.pay ++ joinS (q :: B) = t ++ joinS (p :: q :: B) := by
              show _ = t ++ (p.pay ++ joinS (q :: B))
              rw [ByteArray.append_assoc]
            rw [hj]
            simp
      · have hlt : e < p.off := by omega
        unfold chain
        have hf : (A ++ p :: B).find? (fun q => decide (q.off = e)) = none := ?_
        · rw [hf]
          have : fullS (p :: B) e = false := by show (decide (p.off = e) && fullS B (enP p)) = _; simp [he]
          rw [this, if_neg (by simp)]
        · rw [List.find?_eq_none]
          intro P hP
          rcases List.mem_append.1 hP with h | h
          · have a := hok.1 P (by simp [h])
            have b := hA P h
            unfold PcOk at a
            unfold enP at *
            simp
            omega
          · rcases List.mem_cons.1 h with h | h
            · subst h; simpa using he
            · have := hnB.1 P h
              unfold PcOk at hp
              unfold enP at this
              simp
              omega
theorem whole_sorted {l S : List Pk} (h : OkL l) (hp : l.Perm S) (hs : Sor S) (hne : S ≠ []) : wholeM l = if fullS S 0 = true ∧ moreS S = false then some (bareP (withPay (S.headD zeroP) (joinS S))) else none := by
  unfold wholeM
  rw [chain_perm h hp, show S = [] ++ S from rfl, chain_sorted S [] 65536 0 zeroP ByteArray.empty (h.perm hp) hs (fun P hP => by cases hP) (fun P hP => ((h.perm hp).1 P hP).1) (by decide) (fun _ => rfl)]
  simp [hne]
/-- The code's own test. -/
def refS (S : List Pk) (P : Pk) : Bool :=
  (!moreS S && (!P.more || decide (enP (S.getLastD zeroP) < enP P))) || (!P.more && decide (enP P < enP (S.getLastD zeroP))) || decide (64 ≤ S.length) || S.any (meetP P)
theorem moreS_last : ∀ {S : List Pk}, S ≠ [] → moreS S = (S.getLastD zeroP).more
  | [], h => absurd rfl h
  | [p], _ => rfl
  | p :: q :: r, _ => by
    show moreS (q :: r) = _
    rw [moreS_last (by simp)]
    simp
theorem ref_clash {l S : List Pk} {P : Pk} (h : OkL l) (hp : l.Perm S) (hs : Sor S) (hne : S ≠ []) : refS S P = clash l P := by
  have hS := h.perm hp
  obtain ⟨A, z, rfl⟩ : ∃ A z, S = A ++ [z] := ⟨S.dropLast, S.getLast hne, (List.dropLast_concat_getLast hne).symm⟩
  have hz : (A ++ [z]).getLastD zeroP = z := by simp
  have hA : ∀ q ∈ A, q.more = true ∧ enP q ≤ z.off := by
    intro q hq
    have h1 := sor_next hS hs
    rw [List.pairwise_append] at h1
    have h2 := h1.2.2 q hq z (by simp)
    refine ⟨?_, h2⟩
    have h3 := hS.2
    rw [List.pairwise_append] at h3
    have h4 := h3.2.2 q hq z (by simp)
    have h5 := hS.1 z (by simp)
    unfold PcOk at h5
    by_cases hm : q.more = false
    · have := (h4.2.1 hm).2
      unfold enP at *
      omega
    · simpa using hm
  have hzz := hS.1 z (by simp)
  have e1 : clash l P = clash (A ++ [z]) P := by
    unfold clash
    rw [hp.length_eq, List.Perm.any_eq hp]
  rw [e1]
  unfold refS clash
  rw [moreS_last hne, hz, List.any_append, List.any_append]
  simp only [List.any_cons, List.any_nil, Bool.or_false]
  have e2 : A.any (badP P) = (A.any (meetP P) || (!A.isEmpty && A.any fun q => !P.more && decide (enP P < enP q))) := by
    rw [Bool.eq_iff_iff]
    simp only [List.any_eq_true, Bool.or_eq_true, Bool.and_eq_true]
    constructor
    · rintro ⟨q, hq, hb⟩
      have ha := hA q hq
      unfold badP at hb
      simp only [ha.1, Bool.or_eq_true, Bool.and_eq_true] at hb
      rcases hb with (hb | hb) | hb
      · exact Or.inl ⟨q, hq, hb⟩
      · simp at hb
      · refine Or.inr ⟨?_, q, hq, hb⟩
        cases A with
        | nil => cases hq
        | cons a A => rfl
    · rintro (⟨q, hq, hb⟩ | ⟨_, q, hq, hb⟩)
      · exact ⟨q, hq, by unfold badP; simp [hb]⟩
      · exact ⟨q, hq, by unfold badP; simp [hb]⟩
  rw [e2]
  have e3 : (A.any fun q => !P.more && decide (enP P < enP q)) = true → (!P.more && decide (enP P < enP z)) = true := by
    simp only [List.any_eq_true, Bool.and_eq_true, decide_eq_true_eq]
    rintro ⟨q, hq, h1, h2⟩
    have := (hA q hq).2
    unfold PcOk at hzz
    refine ⟨h1, ?_⟩
    unfold enP at *
    omega
  unfold badP
  generalize (A.any fun q => !P.more && decide (enP P < enP q)) = x at e3 ⊢
  generalize A.any (meetP P) = y
  generalize (!P.more && decide (enP P < enP z)) = u at e3 ⊢
  generalize (!z.more && (!P.more || decide (enP z < enP P))) = v
  generalize decide (64 ≤ (A ++ [z]).length) = s
  generalize meetP P z = m
  generalize (!A.isEmpty) = k
  cases x <;> cases u <;> cases v <;> cases y <;> cases s <;> cases m <;> cases k <;> simp_all
end Go.Proofs.Ythnlfjkpiohooaa
/-
  Own text. Boxes of heaps as plain data: what is taken, kept and told. Names no function of the program.
-/
namespace Go.Proofs.Ythnlfjkpiohooaa
open Go.RowKit Go.Proofs
set_option maxRecDepth 100000
structure Hp where
  fam : Fam
  born : Int
  ps : List Pk
structure Bx where
  time : Int
  hs : List Hp
def timeF (t now : Int) : Int := max t (min now 4611686018427387904)
def staysF (t : Int) (h : Hp) : Bool := decide (t - h.born < 30000)
def lateF (b : Bx) (now : Int) : Bx := ⟨timeF b.time now, b.hs.filter (staysF (timeF b.time now))⟩
def mayL (P : Pk) : Bool := decide (0 < P.pay.size) && (!P.more || decide (P.pay.size % 8 = 0)) && decide (enP P ≤ 65535)
def wholeQ (P : Pk) : Bool := decide (P.off = 0) && !P.more
def findF (hs : List Hp) (f : Fam) : Option Hp := hs.find? (fun h => decide (h.fam = f))
def dropF (hs : List Hp) (f : Fam) : List Hp := hs.filter (fun h => !decide (h.fam = f))
def setF (hs : List Hp) (f : Fam) (l : List Pk) : List Hp := hs.map (fun h => if h.fam = f then { h with ps := l } else h)
def tellF (l : List Pk) : Option Pk :=
  match wholeM l with
  | none => none
  | some q => if fitP q = true then some q else none
def roomF (hs : List Hp) : List Hp := if 8 ≤ hs.length then hs.drop 1 else hs
def putB (b : Bx) (f : Fam) (P : Pk) : Option Pk × Bx :=
  match findF b.hs f with
  | some h =>
    if hasSame h.ps P = true then (none, b)
    else if clash h.ps P = true then (none, { b with hs := dropF b.hs f })
    else if (wholeM (h.ps ++ [P])).isSome = true then (tellF (h.ps ++ [P]), { b with hs := dropF b.hs f })
    else (none, { b with hs := setF b.hs f (h.ps ++ [P]) })
  | none => (none, { b with hs := roomF b.hs ++ [⟨f, b.time, [P]⟩] })
def takeF (b : Bx) (now : Int) (f : Fam) (P : Pk) : Option Pk × Bx :=
  if rgtP P = false then (none, lateF b now)
  else if wholeQ P = true then (some (bareP P), lateF b now)
  else if mayL P = false then (none, lateF b now)
  else putB (lateF b now) f P
/-- What a heap is, ever. -/
def HpOk (t : Int) (h : Hp) : Prop := 0 ≤ h.born ∧ h.born ≤ t ∧ h.ps ≠ [] ∧ h.ps.length ≤ 64 ∧ OkL h.ps ∧ ∀ P ∈ h.ps, rgtP P = true
/-- What a box is, ever. -/
structure InvB (b : Bx) : Prop where
  t0 : 0 ≤ b.time
  t1 : b.time ≤ 4611686018427387904
  few : b.hs.length ≤ 8
  nod : (b.hs.map Hp.fam).Nodup
  rise : b.hs.Pairwise (fun h g => h.born ≤ g.born)
  ok : ∀ h ∈ b.hs, HpOk b.time h
def noB : Bx := ⟨0, []⟩
theorem inv_no : InvB noB := ⟨Int.le_refl _, by decide, by decide, List.Pairwise.nil, List.Pairwise.nil, fun h hh => by cases hh⟩
theorem HpOk.later {t t' : Int} {h : Hp} (ho : HpOk t h) (ht : t ≤ t') : HpOk t' h := ⟨ho.1, Int.le_trans ho.2.1 ht, ho.2.2⟩
theorem timeF_le (t now : Int) : t ≤ timeF t now := by unfold timeF; omega
theorem InvB.filt {b : Bx} (h : InvB b) (p : Hp → Bool) {t : Int} (ht : b.time ≤ t) (h1 : t ≤ 4611686018427387904) : InvB ⟨t, b.hs.filter p⟩ := by
  refine ⟨Int.le_trans h.t0 ht, h1, Nat.le_trans (List.length_filter_le _ _) h.few, ?_, h.rise.filter _, fun g hg => (h.ok g (List.mem_filter.1 hg).1).later ht⟩
  exact List.Nodup.sublist (List.Sublist.map _ List.filter_sublist) h.nod
theorem InvB.late {b : Bx} (h : InvB b) (now : Int) : InvB (lateF b now) := h.filt _ (timeF_le _ _) (by have := h.t1; unfold timeF; omega)
theorem wholeM_one {P : Pk} (h : OkL [P]) (hw : wholeQ P = false) : wholeM [P] = none := by
  rw [whole_sorted h (List.Perm.refl _) (List.pairwise_singleton _ _) (by simp), if_neg]
  rintro ⟨h1, h2⟩
  have h1 : (decide (P.off = 0) && fullS [] (enP P)) = true := h1
  have h2 : P.more = false := h2
  unfold wholeQ at hw
  simp [h2] at hw
  simp [hw] at h1
theorem PcOk_of {P : Pk} (hr : rgtP P = true) (hm : mayL P = true) : PcOk P := by
  unfold mayL at hm
  unfold rgtP upB at hr
  simp only [Bool.and_eq_true, decide_eq_true_eq, Bool.or_eq_true, Bool.not_eq_true'] at hm hr
  refine ⟨by omega, by omega, by omega, fun h => ?_⟩
  rcases hm.1.2 with h2 | h2
  · rw [h] at h2; cases h2
  · exact h2
theorem find_mem {hs : List Hp} {f : Fam} {h : Hp} (hf : findF hs f = some h) : h ∈ hs ∧ h.fam = f := ⟨List.mem_of_find?_eq_some hf, by simpa using List.find?_some hf⟩
theorem find_no {hs : List Hp} {f : Fam} (hf : findF hs f = none) : f ∉ hs.map Hp.fam := by
  intro h
  obtain ⟨g, hg, e⟩ := List.mem_map.1 h
  exact absurd e (by simpa using List.find?_eq_none.1 hf g hg)
theorem set_fam (hs : List Hp) (f : Fam) (l : List Pk) : (setF hs f l).map Hp.fam = hs.map Hp.fam := by
  unfold setF
  rw [List.map_map]
  refine List.map_congr_left (fun h _ => ?_)
  show (if h.fam = f then { h with ps := l } else h).fam = _
  split <;> rfl
theorem InvB.set {b : Bx} (h : InvB b) (f : Fam) {l : List Pk} (h0 : l ≠ []) (h1 : l.length ≤ 64) (h2 : OkL l) (h3 : ∀ P ∈ l, rgtP P = true) : InvB ⟨b.time, setF b.hs f l⟩ := by
  refine ⟨h.t0, h.t1, by unfold setF; simpa using h.few, by show ((setF b.hs f l).map Hp.fam).Nodup; rw [set_fam]; exact h.nod, ?_, ?_⟩
  · show (setF b.hs f l).Pairwise _
    unfold setF
    rw [List.pairwise_map]
    refine h.rise.imp (fun {x y} hxy => ?_)
    show (if x.fam = f then { x with ps := l } else x).born ≤ (if y.fam = f then { y with ps := l } else y).born
    split <;> split <;> exact hxy
  · intro g hg
    obtain ⟨x, hx, e⟩ := List.mem_map.1 hg
    have ox := h.ok x hx
    subst e
    show HpOk b.time (if x.fam = f then { x with ps := l } else x)
    split
    · exact ⟨ox.1, ox.2.1, h0, h1, h2, h3⟩
    · exact ox
theorem InvB.begin {b : Bx} (h : InvB b) {f : Fam} {P : Pk} (hf : findF b.hs f = none) (hr : rgtP P = true) (hm : mayL P = true) : InvB ⟨b.time, roomF b.hs ++ [⟨f, b.time, [P]⟩]⟩ := by
  have hsub : List.Sublist (roomF b.hs) b.hs := by
    unfold roomF
    split
    · exact List.drop_sublist _ _
    · exact List.Sublist.refl _
  refine ⟨h.t0, h.t1, ?_, ?_, ?_, ?_⟩
  · show (roomF b.hs ++ [_]).length ≤ 8
    have := h.few
    unfold roomF
    split <;> simp <;> omega
  · show ((roomF b.hs ++ [_]).map Hp.fam).Nodup
    rw [List.map_append, List.nodup_append]
    refine ⟨List.Nodup.sublist (List.Sublist.map _ hsub) h.nod, by simp, fun a ha c hc e => ?_⟩
    simp at hc
    subst hc
    subst e
    exact find_no hf ((List.Sublist.map _ hsub).subset ha)
  · show (roomF b.hs ++ [_]).Pairwise _
    rw [List.pairwise_append]
    refine ⟨List.Pairwise.sublist hsub h.rise, List.pairwise_singleton _ _, fun x hx y hy => ?_⟩
    simp at hy
    subst hy
    exact (h.ok x (hsub.subset hx)).2.1
  · intro g hg
    rcases List.mem_append.1 hg with hg | hg
    · exact h.ok g (hsub.subset hg)
    · simp at hg
      subst hg
      exact ⟨h.t0, Int.le_refl _, by simp, by simp, OkL.one (PcOk_of hr hm), fun Q hQ => by simp at hQ; rw [hQ]; exact hr⟩
theorem InvB.put {b : Bx} (h : InvB b) {f : Fam} {P : Pk} (hr : rgtP P = true) (hm : mayL P = true) : InvB (putB b f P).2 := by
  unfold putB
  cases hf : findF b.hs f with
  | none => exact h.begin hf hr hm
  | some g =>
    have hg := h.ok g (find_mem hf).1
    show InvB (if hasSame g.ps P = true then ((none : Option Pk), b) else if clash g.ps P = true then (none, { b with hs := dropF b.hs f }) else if (wholeM (g.ps ++ [P])).isSome = true then (tellF (g.ps ++ [P]), { b with hs := dropF b.hs f }) else (none, { b with hs := setF b.hs f (g.ps ++ [P]) })).2
    split
    · exact h
    · split
      · exact h.filt _ (Int.le_refl _) h.t1
      · rename_i hc
        split
        · exact h.filt _ (Int.le_refl _) h.t1
        · have hc : clash g.ps P = false := by simpa using hc
          refine h.set f (by simp) ?_ (hg.2.2.2.2.1.snoc (PcOk_of hr hm) hc) (fun Q hQ => ?_)
          · unfold clash at hc
            simp at hc
            simp
            omega
          · rcases List.mem_append.1 hQ with h1 | h1
            · exact hg.2.2.2.2.2 Q h1
            · simp at h1; rw [h1]; exact hr
theorem InvB.take {b : Bx} (h : InvB b) (now : Int) (f : Fam) (P : Pk) : InvB (takeF b now f P).2 := by
  unfold takeF
  split
  · exact h.late now
  · split
    · exact h.late now
    · split
      · exact h.late now
      · rename_i h1 h2 h3
        exact (h.late now).put (by simpa using h1) (by simpa using h3)
def heldL : List Pk → Nat
  | [] => 0
  | p :: r => p.pay.size + heldL r
def heldF : List Hp → Nat
  | [] => 0
  | h :: r => heldL h.ps + heldF r
theorem held_perm {l m : List Pk} (h : l.Perm m) : heldL l = heldL m := by
  induction h with
  | nil => rfl
  | cons x _ ih => unfold heldL; rw [ih]
  | swap x y l => show _ + (_ + _) = _ + (_ + _); omega
  | trans _ _ ih1 ih2 => exact ih1.trans ih2
theorem sorted_of {l : List Pk} (h : OkL l) : ∃ S, l.Perm S ∧ Sor S := by
  refine ⟨l.mergeSort (fun P Q => decide (P.off ≤ Q.off)), (List.mergeSort_perm _ _).symm, ?_⟩
  have h1 := List.pairwise_mergeSort (le := fun P Q : Pk => decide (P.off ≤ Q.off)) (fun a b c h1 h2 => by simp at *; omega) (fun a b => by simp; omega) l
  have h2 := (h.perm (List.mergeSort_perm l (fun P Q => decide (P.off ≤ Q.off))).symm).off_ne
  refine (List.pairwise_and_iff.2 ⟨h1, h2⟩).imp (fun {P Q} hh => ?_)
  simp at hh
  omega
theorem held_sorted : ∀ {S : List Pk} {e : Int}, OkL S → Sor S → (∀ P ∈ S, e ≤ P.off) → e ≤ 65535 → e + heldL S ≤ 65535
  | [], e, _, _, _, he => by show e + 0 ≤ _; omega
  | p :: S, e, h, hs, h0, he => by
    have hn := sor_next h hs
    rw [List.pairwise_cons] at hn
    have hp := h.1 p (by simp)
    have ih := held_sorted (S := S) (e := enP p) ⟨fun P hP => h.1 P (by simp [hP]), (List.pairwise_cons.1 h.2).2⟩ (List.pairwise_cons.1 hs).2 hn.1 hp.2.2.1
    have := h0 p (by simp)
    show e + ((p.pay.size + heldL S : Nat) : Int) ≤ 65535
    unfold enP at ih
    omega
theorem held_le {l : List Pk} (h : OkL l) : heldL l ≤ 65535 := by
  obtain ⟨S, hp, hs⟩ := sorted_of h
  have := held_sorted (e := 0) (h.perm hp) hs (fun P hP => ((h.perm hp).1 P hP).1) (by decide)
  rw [held_perm hp]
  omega
theorem held_ge {l : List Pk} (h : OkL l) : l.length ≤ heldL l := by
  induction l with
  | nil => exact Nat.le_refl _
  | cons p l ih =>
    have := (h.1 p (by simp)).2.1
    have := ih ⟨fun P hP => h.1 P (by simp [hP]), (List.pairwise_cons.1 h.2).2⟩
    show _ + 1 ≤ p.pay.size + heldL l
    omega
theorem heldF_le {t : Int} {hs : List Hp} (h : ∀ g ∈ hs, HpOk t g) : heldF hs ≤ hs.length * 65535 ∧ hs.length ≤ heldF hs := by
  induction hs with
  | nil => exact ⟨Nat.le_refl _, Nat.le_refl _⟩
  | cons g hs ih =>
    have hg := h g (by simp)
    have h1 := held_le hg.2.2.2.2.1
    have h2 := held_ge hg.2.2.2.2.1
    have h3 : 1 ≤ g.ps.length := by cases hx : g.ps with
      | nil => exact absurd hx hg.2.2.1
      | cons => simp
    have ih := ih (fun x hx => h x (by simp [hx]))
    show heldL g.ps + heldF hs ≤ (hs.length + 1) * 65535 ∧ hs.length + 1 ≤ heldL g.ps + heldF hs
    omega
theorem rgt_bare {P : Pk} (h : rgtP P = true) (t : ByteArray) : rgtP (bareP (withPay P t)) = true := by
  unfold rgtP at h ⊢
  unfold bareP withPay
  simp only [Bool.and_eq_true] at h ⊢
  refine ⟨⟨⟨h.1.1.1, by decide⟩, by decide⟩, ?_⟩
  have h2 := h.2
  by_cases hs : P.sv = true
  · rw [if_pos hs] at h2 ⊢
    unfold rgt6 at h2 ⊢
    simp only [Bool.and_eq_true] at h2 ⊢
    have hf := h2.1.1.1.1.1.1
    have ho := h2.1.1.1.1.1.2
    simp [hs, h2, upB] at hf ho ⊢
    exact ⟨hf, ho⟩
  · rw [if_neg hs] at h2 ⊢
    unfold rgt4 at h2 ⊢
    simp only [Bool.and_eq_true] at h2 ⊢
    simp [hs, h2]
/-- What is told. -/
def ToldOk (o : Option Pk) : Prop := ∀ Q, o = some Q → rgtP Q = true ∧ Q.more = false ∧ Q.off = 0 ∧ Q.cut = false
theorem told_whole {l : List Pk} (h : OkL l) (hr : ∀ P ∈ l, rgtP P = true) : ToldOk (wholeM l) := by
  intro Q hQ
  obtain ⟨S, hp, hs⟩ := sorted_of h
  cases S with
  | nil =>
    rw [hp.eq_nil] at hQ
    have h0 : wholeM [] = none := by unfold wholeM; rfl
    rw [h0] at hQ
    cases hQ
  | cons q S =>
    rw [whole_sorted h hp hs (by simp)] at hQ
    split at hQ
    · rename_i hf
      cases hQ
      have h1 : (decide (q.off = 0) && fullS S (enP q)) = true := hf.1
      simp at h1
      exact ⟨rgt_bare (hr q (hp.mem_iff.2 (by simp))) _, rfl, rfl, rfl⟩
    · cases hQ
theorem told_take {b : Bx} (h : InvB b) (now : Int) (f : Fam) (P : Pk) : ToldOk (takeF b now f P).1 := by
  have none_ok : ToldOk none := fun Q hQ => by cases hQ
  unfold takeF
  split
  · exact none_ok
  · rename_i hr
    have hr : rgtP P = true := by simpa using hr
    split
    · rename_i hw
      intro Q hQ
      cases hQ
      unfold wholeQ at hw
      simp at hw
      have := rgt_bare hr P.pay
      exact ⟨this, rfl, rfl, rfl⟩
    · split
      · exact none_ok
      · rename_i hm
        have hm : mayL P = true := by simpa using hm
        unfold putB
        cases hf : findF (lateF b now).hs f with
        | none => exact none_ok
        | some g =>
          have hg := (h.late now).ok g (find_mem hf).1
          show ToldOk (if hasSame g.ps P = true then ((none : Option Pk), lateF b now) else if clash g.ps P = true then (none, _) else if (wholeM (g.ps ++ [P])).isSome = true then (tellF (g.ps ++ [P]), _) else (none, _)).1
          split
          · exact none_ok
          · split
            · exact none_ok
            · rename_i hc
              split
              · have hc : clash g.ps P = false := by simpa using hc
                have hh := told_whole (hg.2.2.2.2.1.snoc (PcOk_of hr hm) hc) (fun Q hQ => by
                  rcases List.mem_append.1 hQ with h1 | h1
                  · exact hg.2.2.2.2.2 Q h1
                  · simp at h1; rw [h1]; exact hr)
                intro Q hQ
                have hQ : tellF (g.ps ++ [P]) = some Q := hQ
                unfold tellF at hQ
                cases hx : wholeM (g.ps ++ [P]) with
                | none => rw [hx] at hQ; cases hQ
                | some q =>
                  rw [hx] at hQ
                  simp only at hQ
                  split at hQ
                  · cases hQ; exact hh _ hx
                  · cases hQ
              · exact none_ok
end Go.Proofs.Ythnlfjkpiohooaa
/-
  Own text. Parts of texts, and numbers in them.
-/
namespace Go.Proofs.Ythnlfjkpiohooaa
open Go.RowKit Go.Proofs
set_option maxRecDepth 100000
theorem txt_ext {A B : ByteArray} (h : A.size = B.size) (h2 : ∀ j, j < A.size → txt A j = txt B j) : A = B := by
  rw [← mkS_txt A, ← mkS_txt B, ← h]
  exact mkS_congr h2
theorem txt_cutP (s : ByteArray) (a e j : Nat) (h : a + j < e) (he : e ≤ s.size) : txt (s.extract a e) j = txt s (a + j) := by
  have h1 : j < (s.extract a e).size := by rw [ByteArray.size_extract]; omega
  have h2 : a + j < s.size := by omega
  rw [← txt_get h1, ← txt_get h2]
  congr 2
  exact ByteArray.getElem_extract h1
theorem cutP_size (s : ByteArray) (a e : Nat) (he : e ≤ s.size) : (s.extract a e).size = e - a := by
  rw [ByteArray.size_extract]; omega
theorem cutP_join (s : ByteArray) {a m e : Nat} (h1 : a ≤ m) (h2 : m ≤ e) (h3 : e ≤ s.size) : s.extract a m ++ s.extract m e = s.extract a e := by
  have z1 := cutP_size s a m (by omega)
  have z2 := cutP_size s m e h3
  have z3 := cutP_size s a e h3
  refine txt_ext (by rw [ByteArray.size_append]; omega) (fun j hj => ?_)
  rw [ByteArray.size_append] at hj
  rw [txt_append, txt_cutP s a e j (by omega) h3]
  by_cases c : j < (s.extract a m).size
  · rw [if_pos c, txt_cutP s a m j (by omega) (by omega)]
  · rw [if_neg c, txt_cutP s m e _ (by omega) h3]
    congr 1
    omega
theorem cutP_cut (s : ByteArray) {a e b f : Nat} (he : e ≤ s.size) (hf : a + f ≤ e) : (s.extract a e).extract b f = s.extract (a + b) (a + f) := by
  have z1 := cutP_size s a e he
  have z2 := cutP_size (s.extract a e) b f (by omega)
  have z3 := cutP_size s (a + b) (a + f) (by omega)
  refine txt_ext (by omega) (fun j hj => ?_)
  rw [txt_cutP _ b f j (by omega) (by omega), txt_cutP s a e _ (by omega) he, txt_cutP s _ _ j (by omega) (by omega)]
  congr 1
  omega
theorem cutP_all (s : ByteArray) : s.extract 0 s.size = s := by
  refine txt_ext (by rw [cutP_size _ _ _ (Nat.le_refl _)]; omega) (fun j hj => ?_)
  rw [cutP_size _ _ _ (Nat.le_refl _)] at hj
  rw [txt_cutP s 0 s.size j (by omega) (Nat.le_refl _), Nat.zero_add]
theorem cutP_left (A B : ByteArray) {a e : Nat} (h : e ≤ A.size) : (A ++ B).extract a e = A.extract a e := by
  have z1 := cutP_size A a e h
  have z2 := cutP_size (A ++ B) a e (by rw [ByteArray.size_append]; omega)
  refine txt_ext (by omega) (fun j hj => ?_)
  rw [txt_cutP _ a e j (by omega) (by rw [ByteArray.size_append]; omega), txt_cutP A a e j (by omega) h, txt_append, if_pos (by omega)]
theorem cutP_right (A B : ByteArray) {n a e : Nat} (hn : A.size = n) (he : e ≤ B.size) : (A ++ B).extract (n + a) (n + e) = B.extract a e := by
  subst hn
  have z1 := cutP_size B a e he
  have z2 := cutP_size (A ++ B) (A.size + a) (A.size + e) (by rw [ByteArray.size_append]; omega)
  refine txt_ext (by omega) (fun j hj => ?_)
  rw [txt_cutP _ _ _ j (by omega) (by rw [ByteArray.size_append]; omega), txt_cutP B a e j (by omega) he, txt_append, if_neg (by omega)]
  congr 1
  omega
theorem txt_left (A B : ByteArray) {j : Nat} (h : j < A.size) : txt (A ++ B) j = txt A j := by rw [txt_append, if_pos h]
theorem txt_right (A B : ByteArray) {n j : Nat} (hn : A.size = n) : txt (A ++ B) (n + j) = txt B j := by
  subst hn
  rw [txt_append, if_neg (by omega), Nat.add_sub_cancel_left]
theorem getN_congr {f g : Nat → Int} {a b : Nat} : ∀ {z : Nat}, (∀ i, i < z → f (a + i) = g (b + i)) → getN f a z = getN g b z
  | 0, _ => rfl
  | z + 1, h => by
    unfold getN
    rw [getN_congr (fun i hi => h i (by omega)), h z (by omega)]
theorem getN_left (A B : ByteArray) {a z : Nat} (h : a + z ≤ A.size) : getN (txt (A ++ B)) a z = getN (txt A) a z := getN_congr (fun i hi => txt_left A B (by omega))
theorem getN_right (A B : ByteArray) {n a z : Nat} (hn : A.size = n) : getN (txt (A ++ B)) (n + a) z = getN (txt B) a z := getN_congr (fun i hi => by rw [Nat.add_assoc]; exact txt_right A B hn)
theorem getN_cut (s : ByteArray) {a e b z : Nat} (he : e ≤ s.size) (h : a + b + z ≤ e) : getN (txt (s.extract a e)) b z = getN (txt s) (a + b) z := getN_congr (fun i hi => by rw [txt_cutP s a e _ (by omega) he]; congr 1; omega)
theorem putT_size (N z : Nat) : (putT N z).size = z := mkS_size _ _
theorem empty_app (A : ByteArray) : ByteArray.empty ++ A = A := by
  refine txt_ext (by rw [ByteArray.size_append, ByteArray.size_empty]; omega) (fun j hj => ?_)
  rw [txt_append, if_neg (by rw [ByteArray.size_empty]; omega), ByteArray.size_empty]
  rfl
theorem app_empty (A : ByteArray) : A ++ ByteArray.empty = A := by
  refine txt_ext (by rw [ByteArray.size_append, ByteArray.size_empty]; omega) (fun j hj => ?_)
  rw [ByteArray.size_append, ByteArray.size_empty] at hj
  rw [txt_append, if_pos (by omega)]
theorem get_putP {N z : Nat} (hz : z ≤ 8) (hN : N < 256 ^ z) (B : ByteArray) : getN (txt (putT N z ++ B)) 0 z = N := by
  have h := get_put ByteArray.empty N z hz z (Nat.le_refl _)
  rw [empty_app, ByteArray.size_empty, Nat.sub_self, Nat.pow_zero, Nat.div_one, Nat.mod_eq_of_lt hN] at h
  rw [getN_left _ _ (by rw [putT_size]; omega), h]
theorem get_putA {N z : Nat} (hz : z ≤ 8) (hN : N < 256 ^ z) : getN (txt (putT N z)) 0 z = N := by
  have := get_putP hz hN ByteArray.empty
  rwa [app_empty] at this
theorem put_one {N : Nat} (h : N < 256) : txt (putT N 1) 0 = (N : Int) := by
  unfold putT
  rw [txt_mkS (putF_b N 1 0) (by decide)]
  unfold putF
  simp
  omega
theorem getN_one (f : Nat → Int) (a : Nat) : getN f a 1 = (f a).toNat := by
  unfold getN getN
  simp
theorem getN_two (f : Nat → Int) (a : Nat) : getN f a 2 = (f a).toNat * 256 + (f (a + 1)).toNat := by
  unfold getN
  rw [getN_one]
theorem getN_high {f : Nat → Int} (hf : ∀ j, 0 ≤ f j ∧ f j < 256) (a : Nat) : ∀ z i, i ≤ z → getN f a z / 256 ^ (z - i) = getN f a i
  | 0, i, h => by
    obtain rfl : i = 0 := by omega
    simp [getN]
  | z + 1, i, h => by
    by_cases e : i = z + 1
    · subst e
      simp
    · have ih := getN_high hf a z i (by omega)
      have hb := hf (a + z)
      rw [← ih, show z + 1 - i = z - i + 1 by omega, Nat.pow_succ, Nat.mul_comm, ← Nat.div_div_eq_div_mul]
      congr 1
      show (getN f a z * 256 + (f (a + z)).toNat) / 256 = getN f a z
      omega
theorem put_getN (b : ByteArray) {a z : Nat} (h : a + z ≤ b.size) : putT (getN (txt b) a z) z = b.extract a (a + z) := by
  have z1 := cutP_size b a (a + z) h
  refine txt_ext (by rw [putT_size]; omega) (fun j hj => ?_)
  rw [putT_size] at hj
  rw [txt_cutP b a (a + z) j (by omega) h]
  unfold putT
  rw [txt_mkS (putF_b _ z j) hj]
  unfold putF
  have e1 := getN_high (fun j => txt_b b j) a z (j + 1) (by omega)
  rw [show z - 1 - j = z - (j + 1) by omega, e1]
  have hb := txt_b b (a + j)
  show (((getN (txt b) a j * 256 + (txt b (a + j)).toNat) % 256 : Nat) : Int) = _
  omega
theorem put_at (b : ByteArray) {a : Nat} (h : a + 1 ≤ b.size) : putT (txt b a).toNat 1 = b.extract a (a + 1) := by
  rw [← put_getN b h, getN_one]
theorem bytT_ok {v : Bool} {b : Nat → Int} (h : validF v b = true) : bytT v b = mkS (if v = true then 16 else 4) b := by unfold bytT; rw [if_pos h]
theorem bytT_len {v : Bool} {b : Nat → Int} (h : validF v b = true) : (bytT v b).size = if v = true then 16 else 4 := by rw [bytT_ok h, mkS_size]
theorem frB_byt {v : Bool} {b : Nat → Int} (hb : Byts 16 b) (h : validF v b = true) {j : Nat} (hj : j < 16) : frB (bytT v b) j = b j := by
  unfold frB
  rw [bytT_len h]
  by_cases c : j < (if v = true then 16 else 4)
  · rw [if_pos c, bytT_ok h, txt_mkS (hb j hj) c]
  · rw [if_neg c]
    cases v
    · exact (valid4 h j (by simpa using c) hj).symm
    · simp at c; omega
theorem valid_fr {T : ByteArray} (h : T.size = 4) : validF false (frB T) = true := valid_iff.2 (.inr (fun i h1 _ => by unfold frB; rw [if_neg (by omega)]))
theorem valid_six (b : Nat → Int) : validF true b = true := valid_iff.2 (.inl rfl)
theorem byt_fr {v : Bool} {T : ByteArray} (h : T.size = if v = true then 16 else 4) : bytT v (frB T) = T := by
  have hv : validF v (frB T) = true := by
    cases v
    · exact valid_fr h
    · exact valid_six _
  rw [bytT_ok hv, ← h]
  have : mkS T.size (frB T) = mkS T.size (txt T) := mkS_congr (fun j hj => by unfold frB; rw [if_pos hj])
  rw [this, mkS_txt]
theorem app_assoc (A B C : ByteArray) : A ++ B ++ C = A ++ (B ++ C) := by
  refine txt_ext (by simp only [ByteArray.size_append]; omega) (fun j hj => ?_)
  simp only [txt_append, ByteArray.size_append]
  by_cases c1 : j < A.size
  · rw [if_pos (by omega), if_pos c1, if_pos c1]
  · by_cases c2 : j < A.size + B.size
    · rw [if_pos c2, if_neg c1, if_neg c1, if_pos (by omega)]
    · rw [if_neg c2, if_neg c1, if_neg (by omega)]
      congr 1
      omega
theorem app_inj {A B C D : ByteArray} (h : A ++ B = C ++ D) (hs : A.size = C.size) : A = C ∧ B = D := by
  have e1 : (A ++ B).extract 0 A.size = (C ++ D).extract 0 A.size := by rw [h]
  rw [cutP_left A B (Nat.le_refl _), cutP_all, hs, cutP_left C D (Nat.le_refl _), cutP_all] at e1
  refine ⟨e1, ?_⟩
  have hz : B.size = D.size := by
    have := congrArg ByteArray.size h
    simp only [ByteArray.size_append] at this
    omega
  refine txt_ext hz (fun j _ => ?_)
  rw [← txt_right A B rfl, ← txt_right C D (n := A.size) hs.symm, h]
end Go.Proofs.Ythnlfjkpiohooaa
/-
  Own text. A region whose operations come in the text's order, operation by operation, with guards that nobody knows: what an operation yields is told whether it is wanted or not. No program is named here.
-/
namespace Go.Proofs.Ythnlfjkpiohooaa
open Go
section
variable {P : Program} {ops : Array Oper} {Q : Exit → Act → World → Prop}
/-- Operation k: it is wanted, and yields what is known of it; or it is not, and that is known of 'undef'. -/
def WantP (P : Program) (R : World → World → Prop) (φ : Nat → Value → World → Prop) (ds : List Nat) (k : Nat) (o : Oper) (Q : Exit → Act → World → Prop) (a : Act) (w : World) : Prop :=
  ((match o.guard with | none => True | some (g, b) => a.eval (.tmp (ds.getD g 0)) = .bool b) ∧
      ∀ K : Act → World → Prop, (∀ v w', φ k v w' → R w w' → K (a.put o.dst v) w') → o.wp P a w K Q) ∨
    ((match o.guard with | none => False | some (g, b) => a.eval (.tmp (ds.getD g 0)) = .bool (!b) ∨ a.eval (.tmp (ds.getD g 0)) = undef) ∧ φ k undef w)
/-- The slots that the region does not write; up to operation K also those that it writes later on. -/
def baseAt (base base0 : List (Nat × Value)) (K k : Nat) : List (Nat × Value) := match Nat.ble k K with | true => base ++ base0 | false => base
def StepP (P : Program) (S : World → Prop) (R : World → World → Prop) (φ : Nat → Value → World → Prop) (ds : List Nat) (base : List (Nat × Value)) (p : List Nat) (k : Nat) (o : Oper) : Prop :=
  ∀ (Q : Exit → Act → World → Prop) (a : Act) (w : World), S w → Holds a base → Knows φ ds a w p → WantP P R φ ds k o Q a w
def AllStepsP (P : Program) (S : World → Prop) (R : World → World → Prop) (φ : Nat → Value → World → Prop) (ds : List Nat) (base base0 : List (Nat × Value)) (K : Nat) : List (List Nat) → Nat → List Oper → Prop
  | _, _, [] => True
  | p, k, o :: l => StepP P S R φ ds (baseAt base base0 K k) (p.headD []) k o ∧ AllStepsP P S R φ ds base base0 K p.tail (k + 1) l
def tabP (ops : Array Oper) (n : Nat) (ds : List Nat) (base base0 : List Nat) (K : Nat) (p : List (List Nat)) : Bool :=
  (ops.toList.map (·.dst) == ds.map some) && decide ds.Nodup && base.all (fun t => !ds.contains t) && base0.all (fun t => !(ds.take K).contains t) && ds.all (fun d => decide (d < n)) &&
  (List.range ops.size).all (fun i => (p.getD i []).all (fun j => decide (j < i)) && (match ops[i]? with | some o => (match o.guard with | some (g, _) => decide (g < i) | none => true) | none => true))
theorem holds_app {a : Act} : ∀ {l m : List (Nat × Value)}, Holds a l → Holds a m → Holds a (l ++ m)
  | [], _, _, h => h
  | _ :: _, _, h1, h2 => ⟨h1.1, holds_app h1.2 h2⟩
theorem put_else {a : Act} {d t : Nat} {v : Value} (h : d ≠ t) : (a.put (some d) v).tmps[t]? = a.tmps[t]? := by simp [Act.put, h]
theorem put_same {a : Act} {d : Nat} {v : Value} (h : d < a.tmps.size) : (a.put (some d) v).tmps.getD d undef = v := by simp [Act.put, h]
theorem plain_go {a0 : Act} {S : World → Prop} {R : World → World → Prop} {φ : Nat → Value → World → Prop} {ds : List Nat} {base base0 : List (Nat × Value)} {K : Nat}
    (hds : ops.toList.map (·.dst) = ds.map some) (hnd : ds.Nodup) (hbase : ∀ t ∈ base.map (·.1), t ∉ ds) (hbase0 : ∀ t ∈ base0.map (·.1), t ∉ ds.take K) (hsz : ∀ d ∈ ds, d < a0.tmps.size)
    (hb0 : Holds a0 base) (hb00 : Holds a0 base0) (hSR : ∀ w w', S w → R w w' → S w') (hφ : ∀ i v w w', φ i v w → R w w' → φ i v w')
    (fin : ∀ (vs : Nat → Value) (w : World), S w → (∀ j : Nat, j < ds.length → φ j (vs (ds.getD j 0)) w) → Q .normal (putAll a0 vs ds) w) :
    ∀ (l : List Oper) (p : List (List Nat)) (k : Nat), ops.toList.drop k = l → k ≤ ops.size →
      (∀ i, k ≤ i → i < ops.size → (p.getD (i - k) []).all (fun j => decide (j < i)) = true ∧ (match ops[i]? with | some o => (match o.guard with | some (g, _) => decide (g < i) | none => true) | none => true) = true) →
      AllStepsP P S R φ ds base base0 K p k l → ∀ (a : Act) (w : World), a.tmps.size = a0.tmps.size → a.defers = a0.defers → S w →
      (∀ t : Nat, (∀ j, j < k → ds.getD j 0 ≠ t) → a.tmps[t]? = a0.tmps[t]?) → (∀ j, j < k → φ j (a.tmps.getD (ds.getD j 0) undef) w) → wpList P ops Q l a w
  | [], p, k, hl, hk, _, _, a, w, hs, hd, hS, hfr, hkn => by
    have hlen : ops.toList.length = ds.length := by have := congrArg List.length hds; simpa using this
    have hke : k = ops.size := by
      have := congrArg List.length hl
      simp at this
      omega
    have hkl : k = ds.length := by rw [← hlen, hke]; simp
    have hq := fin (fun d => a.tmps.getD d undef) w hS (fun j hj => hkn j (by omega))
    have ha : putAll a0 (fun d => a.tmps.getD d undef) ds = a := by
      have h1 := putAll_defers (fun d => a.tmps.getD d undef) ds a0
      have h2 : (putAll a0 (fun d => a.tmps.getD d undef) ds).tmps = a.tmps := by
        apply Array.ext_getElem?
        intro t
        by_cases ht : t < a0.tmps.size
        · rw [putAll_get _ _ _ _ ht]
          by_cases hm2 : t ∈ ds
          · rw [if_pos hm2]
            have : t < a.tmps.size := by rw [hs]; exact ht
            simp [this]
          · rw [if_neg hm2]
            exact (hfr t (fun j hj e => hm2 (by
              rw [← e, List.getD_eq_getElem?_getD, List.getElem?_eq_getElem (by omega)]
              simp))).symm
        · rw [Array.getElem?_eq_none (by rw [putAll_size]; omega), Array.getElem?_eq_none (by rw [hs]; omega)]
      rw [← hd] at h1
      generalize putAll a0 (fun d => a.tmps.getD d undef) ds = b at h1 h2
      cases a; cases b
      simp only at h1 h2
      rw [h1, h2]
    rw [ha] at hq
    exact hq
  | o :: l, p, k, hl, hk, htab, hst, a, w, hs, hd, hS, hfr, hkn => by
    have hlen : ops.toList.length = ds.length := by have := congrArg List.length hds; simpa using this
    have hkl : k < ops.size := by
      rcases Nat.lt_or_ge k ops.size with h | h
      · exact h
      · rw [List.drop_eq_nil_of_le (by simpa using h)] at hl
        cases hl
    have hkd : k < ds.length := by rw [← hlen]; simpa using hkl
    have ho : ops[k]? = some o := by
      have h1 : (ops.toList.drop k)[0]? = some o := by rw [hl]; rfl
      rw [List.getElem?_drop] at h1
      simpa using h1
    have hdst : ∀ (j : Nat) (oj : Oper), ops[j]? = some oj → oj.dst = some (ds.getD j 0) := fun j oj hj => by
      have h1 : (ops.toList.map (·.dst))[j]? = some oj.dst := by rw [List.getElem?_map]; simp [hj]
      rw [hds, List.getElem?_map] at h1
      cases hq : ds[j]? with
      | none => rw [hq] at h1; simp at h1
      | some d =>
        rw [hq] at h1
        rw [List.getD_eq_getElem?_getD, hq]
        simpa using h1.symm
    have hdk := hdst k o ho
    have hmem : ds.getD k 0 ∈ ds := by
      rw [List.getD_eq_getElem?_getD, List.getElem?_eq_getElem hkd]
      simp
    have hne : ∀ j, j < k → ds.getD j 0 ≠ ds.getD k 0 := fun j hj e => by
      have hj2 : j < ds.length := by omega
      rw [List.getD_eq_getElem?_getD, List.getD_eq_getElem?_getD, List.getElem?_eq_getElem hj2, List.getElem?_eq_getElem hkd] at e
      have := (List.getElem_inj hnd).1 (by simpa using e)
      omega
    have hl2 : ops.toList.drop (k + 1) = l := by
      have := congrArg List.tail hl
      simpa using this
    obtain ⟨hp, hg0⟩ := htab k (Nat.le_refl _) hkl
    rw [Nat.sub_self] at hp
    have hp' : ∀ j ∈ p.headD [], j < k := fun j hj => by
      have : p.getD 0 [] = p.headD [] := by cases p <;> rfl
      rw [this] at hp
      simpa using List.all_eq_true.1 hp j hj
    have htab' : ∀ i, k + 1 ≤ i → i < ops.size → (p.tail.getD (i - (k + 1)) []).all (fun j => decide (j < i)) = true ∧ (match ops[i]? with | some o => (match o.guard with | some (g, _) => decide (g < i) | none => true) | none => true) = true := fun i h1 h2 => by
      have h3 := htab i (by omega) h2
      refine ⟨?_, h3.2⟩
      have e : p.tail.getD (i - (k + 1)) [] = p.getD (i - k) [] := by
        cases p with
        | nil => rfl
        | cons x p => rw [show i - k = i - (k + 1) + 1 by omega]; rfl
      rw [e]
      exact h3.1
    have next : ∀ v w', S w' → (∀ j, j < k → φ j (a.tmps.getD (ds.getD j 0) undef) w') → φ k v w' → wpList P ops Q l (a.put o.dst v) w' := fun v w' hS' hkn' hv => by
      have hlt : ds.getD k 0 < a.tmps.size := by rw [hs]; exact hsz _ hmem
      refine plain_go hds hnd hbase hbase0 hsz hb0 hb00 hSR hφ fin l p.tail (k + 1) hl2 (by omega) htab' hst.2 (a.put o.dst v) w' ?_ ?_ hS' ?_ ?_
      · rw [hdk]; simpa [Act.put] using hs
      · rw [hdk]; exact hd
      · intro t ht
        have h1 : ds.getD k 0 ≠ t := ht k (by omega)
        rw [hdk, put_else h1]
        exact hfr t (fun j hj => ht j (by omega))
      · intro j hj
        by_cases e : j = k
        · subst e
          rw [hdk, put_same hlt]
          exact hv
        · have h1 := Ne.symm (hne j (by omega))
          rw [hdk, Array.getD_eq_getD_getElem?, put_else h1, ← Array.getD_eq_getD_getElem?]
          exact hkn' j (by omega)
    have hH : Holds a base := holds_of base (fun t ht => eval_tmp_of (hfr t (fun j hj e => hbase t ht (by
      rw [← e, List.getD_eq_getElem?_getD, List.getElem?_eq_getElem (by omega)]
      simp)))) hb0
    have hH' : Holds a (baseAt base base0 K k) := by
      unfold baseAt
      cases hk' : Nat.ble k K
      · exact hH
      · refine holds_app hH (holds_of base0 (fun t ht => eval_tmp_of (hfr t (fun j hj e => hbase0 t ht ?_))) hb00)
        have hjK : j < K := Nat.lt_of_lt_of_le hj (Nat.le_of_ble_eq_true hk')
        rw [← e, List.getD_eq_getElem?_getD, List.getElem?_eq_getElem (by omega)]
        exact List.mem_take_iff_getElem.2 ⟨j, by omega, rfl⟩
    have hK : Knows φ ds a w (p.headD []) := knows_of _ (fun j hj => by simpa [Act.eval] using hkn j (hp' j hj))
    have hyield : ∀ g, g < k → ∀ v, a.eval (.tmp (ds.getD g 0)) = v → yielded ops a.tmps g = (match v with | .bool b => some b | _ => none) := fun g hg v hv => by
      have hog : ops[g]? = some (ops[g]'(by omega)) := Array.getElem?_eq_getElem (by omega)
      have hd := hdst g _ hog
      have hgm : ds.getD g 0 < a.tmps.size := by
        rw [hs]
        apply hsz
        rw [List.getD_eq_getElem?_getD, List.getElem?_eq_getElem (by omega)]
        simp
      have h4 : a.tmps[ds.getD g 0]? = some v := by
        simp only [Act.eval] at hv
        rw [Array.getD_eq_getD_getElem?, Array.getElem?_eq_getElem hgm] at hv
        rw [Array.getElem?_eq_getElem hgm]
        simpa using hv
      unfold yielded
      rw [hog]
      simp only [Option.bind_some, hd, h4]
      cases v <;> rfl
    have hgk : ∀ g b, o.guard = some (g, b) → g < k := fun g b hgd => by
      rw [ho] at hg0
      simp only [hgd] at hg0
      simpa using hg0
    unfold wpList
    rcases hst.1 Q a w hS hH' hK with ⟨hg, hk2⟩ | ⟨hg, hu⟩
    · have hw : Region.wanted o (yielded ops a.tmps) = true := by
        unfold Region.wanted
        cases hgd : o.guard with
        | none => rfl
        | some x =>
          obtain ⟨g, b⟩ := x
          rw [hgd] at hg
          have := hyield g (hgk g b hgd) _ hg
          simp [this]
      rw [if_pos hw]
      exact .inl (hk2 _ (fun v w' h1 h2 => next v w' (hSR w w' hS h2) (fun j hj => hφ j _ w w' (hkn j hj) h2) h1))
    · have hw : Region.wanted o (yielded ops a.tmps) = false := by
        unfold Region.wanted
        cases hgd : o.guard with
        | none => rw [hgd] at hg; exact hg.elim
        | some x =>
          obtain ⟨g, b⟩ := x
          rw [hgd] at hg
          rcases hg with hg | hg
          · have := hyield g (hgk g b hgd) _ hg
            cases b <;> simp [this]
          · have := hyield g (hgk g b hgd) _ hg
            simp [this, undef]
      rw [if_neg (by rw [hw]; decide)]
      exact next undef w hS hkn hu
/-- THE LAW. -/
theorem wp_plain_steps {id : Nat} {a0 : Act} {w0 : World} (S : World → Prop) (R : World → World → Prop) (φ : Nat → Value → World → Prop) (ds : List Nat) (base base0 : List (Nat × Value)) (K : Nat) (p : List (List Nat))
    (hB : tabP ops a0.tmps.size ds (base.map (·.1)) (base0.map (·.1)) K p = true)
    (hb0 : Holds a0 base) (hb00 : Holds a0 base0) (hS0 : S w0) (hSR : ∀ w w', S w → R w w' → S w') (hφ : ∀ i v w w', φ i v w → R w w' → φ i v w')
    (steps : AllStepsP P S R φ ds base base0 K p 0 ops.toList)
    (fin : ∀ (vs : Nat → Value) (w : World), S w → (∀ j : Nat, j < ds.length → φ j (vs (ds.getD j 0)) w) → Q .normal (putAll a0 vs ds) w) : (Code.region id ops false).wp P Q a0 w0 := by
  simp only [tabP, Bool.and_eq_true, beq_iff_eq, decide_eq_true_eq] at hB
  obtain ⟨⟨⟨⟨⟨hds, hnd⟩, hbase⟩, hbase0⟩, hsz⟩, htab⟩ := hB
  refine wp_region_list (plain_go hds hnd (fun t ht => ?_) (fun t ht => ?_) (fun d hd => ?_) hb0 hb00 hSR hφ fin ops.toList p 0 (by simp) (by omega) (fun i _ hi => ?_) steps a0 w0 rfl rfl hS0 (fun _ _ => rfl) (fun j hj => by omega))
  · have := List.all_eq_true.1 hbase t ht
    simpa using this
  · have := List.all_eq_true.1 hbase0 t ht
    simpa using this
  · simpa using List.all_eq_true.1 hsz d hd
  · have := List.all_eq_true.1 htab i (List.mem_range.2 hi)
    rw [Nat.sub_zero]
    rw [Bool.and_eq_true] at this
    exact this
end
-- what is known of an operation that is wanted only if something holds
def gv (c : Bool) (v : Value) : Value := if c = true then v else undef
theorem gv_t {c : Bool} {v : Value} (h : c = true) : gv c v = v := by unfold gv; rw [if_pos h]
theorem gv_f {c : Bool} {v : Value} (h : c = false) : gv c v = undef := by unfold gv; rw [if_neg (by rw [h]; decide)]
theorem nt_t {c : Bool} (h : c = false) : (!c) = true := by rw [h]; rfl
theorem nt_f {c : Bool} (h : c = true) : (!c) = false := by rw [h]; rfl
theorem an_t {c d : Bool} (h : c = true) (k : d = true) : (c && d) = true := by rw [h, k]; rfl
theorem an_l {c d : Bool} (h : (c && d) = true) : c = true := (Bool.and_eq_true _ _ ▸ h).1
theorem an_r {c d : Bool} (h : (c && d) = true) : d = true := (Bool.and_eq_true _ _ ▸ h).2
section
variable {P : Program} {a : Act} {o : Oper} {w : World} {x y z : Operand}
theorem exec_pickAnd (ho : o.op = .pick x y z) {c p : Bool} (hx : a.eval x = .bool c) (hy : c = true → a.eval y = .bool p) (hz : a.eval z = .bool false) : (execOp a.eval o).run P w = .ok (.value (.bool (c && p))) w := by
  unfold execOp
  cases c
  · simp [ho, hx, asBool, Sem.run_pure, hz]
  · simp [ho, hx, asBool, Sem.run_pure, hy rfl]
theorem exec_pickOr (ho : o.op = .pick x y z) {c p : Bool} (hx : a.eval x = .bool c) (hy : a.eval y = .bool true) (hz : c = false → a.eval z = .bool p) : (execOp a.eval o).run P w = .ok (.value (.bool (c || p))) w := by
  unfold execOp
  cases c
  · simp [ho, hx, asBool, Sem.run_pure, hz rfl]
  · simp [ho, hx, asBool, Sem.run_pure, hy]
theorem exec_notB {t : TypeId} (ho : o.op = .unOp .not t x) {c : Bool} (hx : a.eval x = .bool c) : (execOp a.eval o).run P w = .ok (.value (.bool (!c))) w := by
  unfold execOp
  simp only [ho, hx]
  simp [Op.unary, go_sem]
end
section
variable {P : Program} {S : World → Prop} {R : World → World → Prop} {φ : Nat → Value → World → Prop} {a : Act} {o : Oper} {w : World} {Q : Exit → Act → World → Prop} {ds : List Nat} {k g : Nat}
theorem sg0 (hgd : o.guard = none) (h1 : ∀ K : Act → World → Prop, (∀ v w', φ k v w' → R w w' → K (a.put o.dst v) w') → o.wp P a w K Q) : WantP P R φ ds k o Q a w := by
  unfold WantP
  rw [hgd]
  exact .inl ⟨trivial, h1⟩
theorem sgK {b : Bool} (hgd : o.guard = some (g, b)) (hg : a.eval (.tmp (ds.getD g 0)) = .bool b) (h1 : ∀ K : Act → World → Prop, (∀ v w', φ k v w' → R w w' → K (a.put o.dst v) w') → o.wp P a w K Q) : WantP P R φ ds k o Q a w := by
  unfold WantP
  rw [hgd]
  exact .inl ⟨hg, h1⟩
/-- A guard that is a known fact: wanted if c. -/
theorem sgT {c : Bool} (hgd : o.guard = some (g, true)) (hg : a.eval (.tmp (ds.getD g 0)) = .bool c) (h1 : c = true → ∀ K : Act → World → Prop, (∀ v w', φ k v w' → R w w' → K (a.put o.dst v) w') → o.wp P a w K Q) (h0 : c = false → φ k undef w) : WantP P R φ ds k o Q a w := by
  unfold WantP
  rw [hgd]
  cases c
  · exact .inr ⟨.inl hg, h0 rfl⟩
  · exact .inl ⟨hg, h1 rfl⟩
theorem sgF {c : Bool} (hgd : o.guard = some (g, false)) (hg : a.eval (.tmp (ds.getD g 0)) = .bool c) (h1 : c = false → ∀ K : Act → World → Prop, (∀ v w', φ k v w' → R w w' → K (a.put o.dst v) w') → o.wp P a w K Q) (h0 : c = true → φ k undef w) : WantP P R φ ds k o Q a w := by
  unfold WantP
  rw [hgd]
  cases c
  · exact .inl ⟨hg, h1 rfl⟩
  · exact .inr ⟨.inl hg, h0 rfl⟩
/-- The same where the guard itself is wanted only if d. -/
theorem sgTT {c d : Bool} (hgd : o.guard = some (g, true)) (hg : a.eval (.tmp (ds.getD g 0)) = gv d (.bool c)) (h1 : (d && c) = true → ∀ K : Act → World → Prop, (∀ v w', φ k v w' → R w w' → K (a.put o.dst v) w') → o.wp P a w K Q) (h0 : (d && c) = false → φ k undef w) : WantP P R φ ds k o Q a w := by
  unfold WantP
  rw [hgd]
  cases d
  · exact .inr ⟨.inr hg, h0 rfl⟩
  · cases c
    · exact .inr ⟨.inl hg, h0 rfl⟩
    · exact .inl ⟨hg, h1 rfl⟩
theorem sgTF {c d : Bool} (hgd : o.guard = some (g, false)) (hg : a.eval (.tmp (ds.getD g 0)) = gv d (.bool c)) (h1 : (d && !c) = true → ∀ K : Act → World → Prop, (∀ v w', φ k v w' → R w w' → K (a.put o.dst v) w') → o.wp P a w K Q) (h0 : (d && !c) = false → φ k undef w) : WantP P R φ ds k o Q a w := by
  unfold WantP
  rw [hgd]
  cases d
  · exact .inr ⟨.inr hg, h0 rfl⟩
  · cases c
    · exact .inl ⟨hg, h1 rfl⟩
    · exact .inr ⟨.inl hg, h0 rfl⟩
end
end Go.Proofs.Ythnlfjkpiohooaa
/-
  Own text. Packets and extension headers in memory, and laws of single operations over them.
-/
namespace Go.Proofs.Ythnlfjkpiohooaa
open Go.RowKit Go.Proofs
set_option maxRecDepth 100000
def pkT (P : Pk) (v : Value) : Nat → Value
  | 0 => .int .i64 P.proto
  | 1 => .int .i64 P.hop
  | 2 => .int .i64 P.cls
  | 3 => .int .i64 P.id
  | 4 => .int .i64 P.off
  | 5 => .bool P.more
  | 6 => .bool P.still
  | 7 => .string P.opts
  | 8 => .int .i64 P.flow
  | 9 => v
  | 10 => .bool P.cut
  | _ => .string P.pay
/-- The cells of a packet; v: the slice of its extension headers. -/
def pkV (P : Pk) (v : Value) (j : Nat) : Value := if j < 17 then adV P.sv P.sb j else if j < 34 then adV P.dv P.db (j - 17) else pkT P v (j - 34)
theorem pkV_one {P : Pk} {v : Value} (hv : v.oneCell' = true) (j : Nat) : (pkV P v j).oneCell' = true := by
  unfold pkV
  split
  · exact adV_one _ _ _
  · split
    · exact adV_one _ _ _
    · unfold pkT
      split <;> first | rfl | exact hv
def exV (x : Ex) (j : Nat) : Value := if j = 0 then .int .i64 x.kind else .string x.body
theorem exV_one (x : Ex) (j : Nat) : (exV x j).oneCell' = true := by unfold exV; split <;> rfl
theorem isPk : IsSt 27 46 := ⟨_, Try.underlying27, rfl, by kernel_rfl⟩
theorem isEx2 : IsSt 60 2 := ⟨_, Try.underlying60, rfl, by kernel_rfl⟩
theorem zeroPk (w : World) : (zeroValue 27).run Try.prog w = .ok (.agg (SC 46 (pkV zeroP (.slice none 0 0)))) w := by kernel_rfl
theorem zeroEx (w : World) : (zeroValue 60).run Try.prog w = .ok (.agg (SC 2 (exV ⟨0, ByteArray.empty⟩))) w := by kernel_rfl
theorem run_pk0 (w : World) : (Instr.build 27 #[]).run Try.prog w = .ok (.agg (SC 46 (pkV zeroP (.slice none 0 0)))) w := by kernel_rfl
/-- A slice of extension headers. -/
def ExAt (w : World) (v : Value) (l : List Ex) : Prop := ∃ a cap, v = .slice a l.length cap ∧ ∀ j x, l[j]? = some x → ∃ ad : Addr, a = some ad ∧ ad.block < w.heap.size ∧ w.cell? (ad.add (2 * j)) = some (.int .i64 x.kind) ∧ w.cell? (ad.add (2 * j + 1)) = some (.string x.body)
theorem ExAt.kept {w w' : World} {v : Value} {l : List Ex} (h : ExAt w v l) (hb : Below w.heap.size w w') : ExAt w' v l := by
  obtain ⟨a, cap, rfl, h⟩ := h
  refine ⟨a, cap, rfl, fun j x hj => ?_⟩
  obtain ⟨ad, ha, hl, h1, h2⟩ := h j x hj
  exact ⟨ad, ha, Nat.lt_of_lt_of_le hl hb.size, by rw [hb.cell (by rw [add_blk]; exact hl)]; exact h1, by rw [hb.cell (by rw [add_blk]; exact hl)]; exact h2⟩
theorem ExAt.nil (w : World) : ExAt w (.slice none 0 0) [] := ⟨none, 0, rfl, fun j x h => by simp at h⟩
theorem ExAt.one {w : World} {v : Value} {l : List Ex} (h : ExAt w v l) : v.oneCell' = true := by
  obtain ⟨a, cap, rfl, _⟩ := h
  rfl
section
variable {w : World} {g : Nat} {P : Pk} {v : Value}
theorem pk_sv (h : SAt w g 27 46 (pkV P v)) : w.cell? ⟨g, 0, none⟩ = some (.bool P.sv) := h.at 0 (by decide)
theorem pk_dv (h : SAt w g 27 46 (pkV P v)) : w.cell? ⟨g, 17, none⟩ = some (.bool P.dv) := h.at 17 (by decide)
theorem pk_proto (h : SAt w g 27 46 (pkV P v)) : w.cell? ⟨g, 34, none⟩ = some (.int .i64 P.proto) := h.at 34 (by decide)
theorem pk_hop (h : SAt w g 27 46 (pkV P v)) : w.cell? ⟨g, 35, none⟩ = some (.int .i64 P.hop) := h.at 35 (by decide)
theorem pk_cls (h : SAt w g 27 46 (pkV P v)) : w.cell? ⟨g, 36, none⟩ = some (.int .i64 P.cls) := h.at 36 (by decide)
theorem pk_id (h : SAt w g 27 46 (pkV P v)) : w.cell? ⟨g, 37, none⟩ = some (.int .i64 P.id) := h.at 37 (by decide)
theorem pk_off (h : SAt w g 27 46 (pkV P v)) : w.cell? ⟨g, 38, none⟩ = some (.int .i64 P.off) := h.at 38 (by decide)
theorem pk_more (h : SAt w g 27 46 (pkV P v)) : w.cell? ⟨g, 39, none⟩ = some (.bool P.more) := h.at 39 (by decide)
theorem pk_still (h : SAt w g 27 46 (pkV P v)) : w.cell? ⟨g, 40, none⟩ = some (.bool P.still) := h.at 40 (by decide)
theorem pk_opts (h : SAt w g 27 46 (pkV P v)) : w.cell? ⟨g, 41, none⟩ = some (.string P.opts) := h.at 41 (by decide)
theorem pk_flow (h : SAt w g 27 46 (pkV P v)) : w.cell? ⟨g, 42, none⟩ = some (.int .i64 P.flow) := h.at 42 (by decide)
theorem pk_exts (h : SAt w g 27 46 (pkV P v)) : w.cell? ⟨g, 43, none⟩ = some v := h.at 43 (by decide)
theorem pk_cut (h : SAt w g 27 46 (pkV P v)) : w.cell? ⟨g, 44, none⟩ = some (.bool P.cut) := h.at 44 (by decide)
theorem pk_pay (h : SAt w g 27 46 (pkV P v)) : w.cell? ⟨g, 45, none⟩ = some (.string P.pay) := h.at 45 (by decide)
theorem ex_kind {x : Ex} (h : SAt w g 60 2 (exV x)) : w.cell? ⟨g, 0, none⟩ = some (.int .i64 x.kind) := h.at 0 (by decide)
theorem ex_body {x : Ex} (h : SAt w g 60 2 (exV x)) : w.cell? ⟨g, 1, none⟩ = some (.string x.body) := h.at 1 (by decide)
theorem ldP {p : Addr} {n : Int} (h : w.cell? p = some (.int .i64 n)) : (Instr.loadAt 3 (.pointer (some p))).run Try.prog w = .ok (.int .i64 n) w := by simp [go_sem, h]
theorem ldPb {p : Addr} {b : Bool} (h : w.cell? p = some (.bool b)) : (Instr.loadAt 4 (.pointer (some p))).run Try.prog w = .ok (.bool b) w := by simp [go_sem, h]
theorem ldPs {p : Addr} {s : ByteArray} (h : w.cell? p = some (.string s)) : (Instr.loadAt 9 (.pointer (some p))).run Try.prog w = .ok (.string s) w := by simp [go_sem, h]
theorem ldPx {p : Addr} {x : Value} (h : w.cell? p = some x) : (Instr.loadAt 25 (.pointer (some p))).run Try.prog w = .ok x w := by simp [go_sem, h]
theorem ld_src (h : SAt w g 27 46 (pkV P v)) : (Instr.loadAt 24 (.pointer (some ⟨g, 0, none⟩))).run Try.prog w = .ok (.agg (SC 17 (adV P.sv P.sb))) w := by
  refine run_loadAt_addr w ⟨g, 0, none⟩ 24 ((List.range 17).map (adV P.sv P.sb)) _ (fun j x hj => ?_) Try.underlying24 rfl (by rw [List.length_map, List.length_range]; kernel_rfl)
  rw [List.getElem?_map] at hj
  have hl : j < 17 := by
    rcases Nat.lt_or_ge j 17 with h | h
    · exact h
    · rw [List.getElem?_eq_none (by simpa using h)] at hj; cases hj
  rw [List.getElem?_range hl] at hj
  rw [Addr.add_lit, Nat.zero_add, h.at j (by omega)]
  unfold pkV
  rw [if_pos hl]
  exact hj
theorem ld_dst (h : SAt w g 27 46 (pkV P v)) : (Instr.loadAt 24 (.pointer (some ⟨g, 17, none⟩))).run Try.prog w = .ok (.agg (SC 17 (adV P.dv P.db))) w := by
  refine run_loadAt_addr w ⟨g, 17, none⟩ 24 ((List.range 17).map (adV P.dv P.db)) _ (fun j x hj => ?_) Try.underlying24 rfl (by rw [List.length_map, List.length_range]; kernel_rfl)
  rw [List.getElem?_map] at hj
  have hl : j < 17 := by
    rcases Nat.lt_or_ge j 17 with h | h
    · exact h
    · rw [List.getElem?_eq_none (by simpa using h)] at hj; cases hj
  rw [List.getElem?_range hl] at hj
  rw [Addr.add_lit, h.at (17 + j) (by omega)]
  unfold pkV
  rw [if_neg (by omega), if_pos (by omega), Nat.add_sub_cancel_left]
  exact hj
end
section
variable {a : Act} {o : Oper} {w : World} {x y : Operand} {t : TypeId}
def pkO (k : Nat) : Nat := if k = 0 then 0 else if k = 1 then 17 else k + 32
theorem exec_fpk (k : Nat) (hk : k < 14) (ho : o.op = .fieldAddr 27 x k) {g : Nat} (hx : a.eval x = .pointer (some ⟨g, 0, none⟩)) : (execOp a.eval o).run Try.prog w = .ok (.value (.pointer (some ⟨g, pkO k, none⟩))) w := by
  have h : (Instr.fieldAt 27 (.pointer (some ⟨g, 0, none⟩)) k).run Try.prog w = .ok (.pointer (some ⟨g, pkO k, none⟩)) w := by
    match k, hk with
    | 0, _ => simp [go_sem, pkO]
    | 1, _ => simp [go_sem, pkO]
    | 2, _ => simp [go_sem, pkO]
    | 3, _ => simp [go_sem, pkO]
    | 4, _ => simp [go_sem, pkO]
    | 5, _ => simp [go_sem, pkO]
    | 6, _ => simp [go_sem, pkO]
    | 7, _ => simp [go_sem, pkO]
    | 8, _ => simp [go_sem, pkO]
    | 9, _ => simp [go_sem, pkO]
    | 10, _ => simp [go_sem, pkO]
    | 11, _ => simp [go_sem, pkO]
    | 12, _ => simp [go_sem, pkO]
    | 13, _ => simp [go_sem, pkO]
  unfold execOp
  simp only [ho, hx, Sem.run_bind, h, Result.andThen_ok, Sem.run_pure]
theorem exec_fex (k : Nat) (hk : k < 2) (ho : o.op = .fieldAddr 60 x k) {ad : Addr} (hx : a.eval x = .pointer (some ad)) : (execOp a.eval o).run Try.prog w = .ok (.value (.pointer (some (ad.add k)))) w := by
  have h : (Instr.fieldAt 60 (.pointer (some ad)) k).run Try.prog w = .ok (.pointer (some (ad.add k))) w := by
    match k, hk with
    | 0, _ => simp [go_sem]
    | 1, _ => simp [go_sem]
  unfold execOp
  simp only [ho, hx, Sem.run_bind, h, Result.andThen_ok, Sem.run_pure]
theorem exec_fexG (k : Nat) (hk : k < 2) (ho : o.op = .fieldAddr 60 x k) {g : Nat} (hx : a.eval x = .pointer (some ⟨g, 0, none⟩)) : (execOp a.eval o).run Try.prog w = .ok (.value (.pointer (some ⟨g, k, none⟩))) w := by
  have := exec_fex (w := w) k hk ho hx
  rwa [Addr.add_lit, Nat.zero_add] at this
theorem exec_fad0 (ho : o.op = .fieldAddr 24 x 0) {g f : Nat} (hx : a.eval x = .pointer (some ⟨g, f, none⟩)) : (execOp a.eval o).run Try.prog w = .ok (.value (.pointer (some ⟨g, f, none⟩))) w := by
  have h : (Instr.fieldAt 24 (.pointer (some ⟨g, f, none⟩)) 0).run Try.prog w = .ok (.pointer (some ⟨g, f, none⟩)) w := by simp [go_sem]
  unfold execOp
  simp only [ho, hx, Sem.run_bind, h, Result.andThen_ok, Sem.run_pure]
theorem exec_ixE (ho : o.op = .indexAddr 25 x y) {p : Addr} {n c i : Nat} (hx : a.eval x = .slice (some p) n c) (hy : a.eval y = .int .i64 (i : Int)) (hi : i < n) : (execOp a.eval o).run Try.prog w = .ok (.value (.pointer (some (p.add (2 * i))))) w := by
  unfold execOp
  simp only [ho, hx, hy, Sem.run_bind]
  rw [run_indexAt_slice w 25 _ n c .i64 (i : Int) Try.underlying25, if_pos ⟨by omega, by omega⟩]
  have e : (sizeOf (Try.prog.elem 25)).run Try.prog w = .ok 2 w := by kernel_rfl
  simp [e, Nat.mul_comm]
theorem exec_lenX (ho : o.op = .call { callee := .builtin .len, args := #[x], argTypes := #[25] }) {ad : Option Addr} {n c : Nat} (hx : a.eval x = .slice ad n c) : (execOp a.eval o).run Try.prog w = .ok (.value (.int .i64 (n : Int))) w := by
  have hr : (Builtin.len_ #[25] o.type #[.slice ad n c]).run Try.prog w = .ok (goInt n) w := by simp [go_sem]
  simp [execOp, ho, resolve, invoke, builtin, hx, hr, goInt]
theorem ldEx {p : Addr} {e : Ex} (h1 : w.cell? p = some (.int .i64 e.kind)) (h2 : w.cell? (p.add 1) = some (.string e.body)) : (Instr.loadAt 60 (.pointer (some p))).run Try.prog w = .ok (.agg (SC 2 (exV e))) w := by
  refine run_loadAt_addr w p 60 [.int .i64 e.kind, .string e.body] _ (fun j x hj => ?_) Try.underlying60 rfl (by kernel_rfl)
  match j, hj with
  | 0, hj =>
    simp at hj
    subst hj
    have e0 : p.add 0 = p := by cases p with | mk b o q => cases q <;> simp [Addr.add]
    rw [e0]
    exact h1
  | 1, hj => simp at hj; subst hj; exact h2
theorem exec_pk0 (ho : o.op = .build 27 #[]) : (execOp a.eval o).run Try.prog w = .ok (.value (.agg (SC 46 (pkV zeroP (.slice none 0 0))))) w := by
  unfold execOp
  simp only [ho, List.map_toArray, List.map_nil, Sem.run_bind, run_pk0, Result.andThen_ok, Sem.run_pure]
-- comparisons whose outcome nobody knows
theorem cmp_eq (ho : o.op = .binOp .eql 3 x y 3) {m n : Int} (hx : a.eval x = .int .i64 m) (hy : a.eval y = .int .i64 n) : (execOp a.eval o).run Try.prog w = .ok (.value (.bool (decide (m = n)))) w := exec_bin2 ho hx hy rfl (by simp [go_sem]; exact (Bool.beq_eq_decide_eq m n))
theorem cmp_ne (ho : o.op = .binOp .neq 3 x y 3) {m n : Int} (hx : a.eval x = .int .i64 m) (hy : a.eval y = .int .i64 n) : (execOp a.eval o).run Try.prog w = .ok (.value (.bool (!decide (m = n)))) w := exec_bin2 ho hx hy rfl (by simp [go_sem, bne, Bool.beq_eq_decide_eq])
theorem cmp_lt (ho : o.op = .binOp .lss 3 x y 3) {m n : Int} (hx : a.eval x = .int .i64 m) (hy : a.eval y = .int .i64 n) : (execOp a.eval o).run Try.prog w = .ok (.value (.bool (decide (m < n)))) w := exec_bin2 ho hx hy rfl (by simp [go_sem])
theorem cmp_le (ho : o.op = .binOp .leq 3 x y 3) {m n : Int} (hx : a.eval x = .int .i64 m) (hy : a.eval y = .int .i64 n) : (execOp a.eval o).run Try.prog w = .ok (.value (.bool (decide (m ≤ n)))) w := exec_bin2 ho hx hy rfl (by simp [go_sem])
theorem cmp_gt (ho : o.op = .binOp .gtr 3 x y 3) {m n : Int} (hx : a.eval x = .int .i64 m) (hy : a.eval y = .int .i64 n) : (execOp a.eval o).run Try.prog w = .ok (.value (.bool (decide (n < m)))) w := exec_bin2 ho hx hy rfl (by simp [go_sem])
theorem cmp_ge (ho : o.op = .binOp .geq 3 x y 3) {m n : Int} (hx : a.eval x = .int .i64 m) (hy : a.eval y = .int .i64 n) : (execOp a.eval o).run Try.prog w = .ok (.value (.bool (decide (n ≤ m)))) w := exec_bin2 ho hx hy rfl (by simp [go_sem])
theorem cmp_eqE (ho : o.op = .binOp .eql 30 x y 30) {m n : Int} (hx : a.eval x = .int .i64 m) (hy : a.eval y = .int .i64 n) : (execOp a.eval o).run Try.prog w = .ok (.value (.bool (decide (m = n)))) w := exec_bin2 ho hx hy rfl (by simp [go_sem]; exact (Bool.beq_eq_decide_eq m n))
theorem cmp_neE (ho : o.op = .binOp .neq 30 x y 30) {m n : Int} (hx : a.eval x = .int .i64 m) (hy : a.eval y = .int .i64 n) : (execOp a.eval o).run Try.prog w = .ok (.value (.bool (!decide (m = n)))) w := exec_bin2 ho hx hy rfl (by simp [go_sem, bne, Bool.beq_eq_decide_eq])
theorem cmp_eq8 (ho : o.op = .binOp .eql 5 x y 5) {m n : Int} (hx : a.eval x = .int .u8 m) (hy : a.eval y = .int .u8 n) : (execOp a.eval o).run Try.prog w = .ok (.value (.bool (decide (m = n)))) w := exec_bin2 ho hx hy rfl (by simp [go_sem]; exact (Bool.beq_eq_decide_eq m n))
theorem cmp_ne8 (ho : o.op = .binOp .neq 5 x y 5) {m n : Int} (hx : a.eval x = .int .u8 m) (hy : a.eval y = .int .u8 n) : (execOp a.eval o).run Try.prog w = .ok (.value (.bool (!decide (m = n)))) w := exec_bin2 ho hx hy rfl (by simp [go_sem, bne, Bool.beq_eq_decide_eq])
theorem cmp_eqB (ho : o.op = .binOp .eql 4 x y 4) {m n : Bool} (hx : a.eval x = .bool m) (hy : a.eval y = .bool n) : (execOp a.eval o).run Try.prog w = .ok (.value (.bool (m == n))) w := exec_bin2 ho hx hy rfl (by simp [go_sem])
theorem cmp_neB (ho : o.op = .binOp .neq 4 x y 4) {m n : Bool} (hx : a.eval x = .bool m) (hy : a.eval y = .bool n) : (execOp a.eval o).run Try.prog w = .ok (.value (.bool (!(m == n)))) w := exec_bin2 ho hx hy rfl (by simp [go_sem])
theorem cmp_neS (ho : o.op = .binOp .neq 9 x y 9) {s t : ByteArray} (hx : a.eval x = .string s) (hy : a.eval y = .string t) : (execOp a.eval o).run Try.prog w = .ok (.value (.bool (!decide (s = t)))) w := by
  by_cases e : s = t
  · subst e
    exact exec_bin2 ho hx hy rfl (by simp [go_sem])
  · rw [decide_eq_false e]
    exact exec_neqST ho hx hy e
theorem rem_nn (ho : o.op = .binOp .rem 3 x y 3) {m n : Int} (hx : a.eval x = .int .i64 m) (hy : a.eval y = .int .i64 n) (h0 : 0 ≤ m) (hn : 0 < n) : (execOp a.eval o).run Try.prog w = .ok (.value (.int .i64 (m % n))) w := by
  obtain ⟨i, rfl⟩ := Int.eq_ofNat_of_zero_le h0
  obtain ⟨k, rfl⟩ := Int.eq_ofNat_of_zero_le (by omega : 0 ≤ n)
  have := exec_remW (w := w) (q := i % k) ho hx hy rfl (by omega)
  exact this
theorem exec_cvIU64 (ho : o.op = .convert 3 123 x) {m : Int} (hx : a.eval x = .int .i64 m) (h0 : 0 ≤ m) (h1 : m < 9223372036854775808) : (execOp a.eval o).run Try.prog w = .ok (.value (.int .u64 ((m.toNat : Nat) : Int))) w := by
  have e : IntKind.u64.wrap m = ((m.toNat : Nat) : Int) := by rw [IntKind.wrap_u64]; omega
  unfold execOp
  simp only [ho, hx]
  simp [go_sem, e]
end
end Go.Proofs.Ythnlfjkpiohooaa
/-
  Own text. Families of pieces as keys, and maps keyed by them, in memory: what a lookup, a store, a delete, len and a range do.
-/
namespace Go.Proofs.Ythnlfjkpiohooaa
open Go.RowKit Go.Proofs
set_option maxRecDepth 100000
/-- The cells of a family. -/
def fmV (a e : Int) (sv : Bool) (sb : Nat → Int) (dv : Bool) (db : Nat → Int) (p i : Int) (j : Nat) : Value := if j < 1 then .int .i64 a else if j < 2 then .int .i64 e else if j < 19 then adV sv sb (j - 2) else if j < 36 then adV dv db (j - 19) else if j < 37 then .int .i64 p else .int .i64 i
theorem fmV_one {a e : Int} {sv : Bool} {sb : Nat → Int} {dv : Bool} {db : Nat → Int} {p i : Int} (j : Nat) : (fmV a e sv sb dv db p i j).oneCell' = true := by
  unfold fmV
  split
  · rfl
  · split
    · rfl
    · split
      · exact adV_one _ _ _
      · split
        · exact adV_one _ _ _
        · split <;> rfl
def tgV (a e : Int) (j : Nat) : Value := if j < 1 then .int .i64 a else .int .i64 e
theorem tgV_one {a e : Int} (j : Nat) : (tgV a e j).oneCell' = true := by unfold tgV; split <;> rfl
/-- A value that is a family. -/
def KeyIs (k : Value) (F : Fam) : Prop := ∃ a e sv sb dv db p i, k = .agg (SC 38 (fmV a e sv sb dv db p i)) ∧ F = famL a e sv sb dv db p i
theorem fieldsF : (Try.prog.fieldsOf 69).toList.map (fun f => (f.name, f.type, f.offset)) = [("tag", 45, 0), ("src", 24, 2), ("dst", 24, 19), ("proto", 3, 36), ("id", 3, 37)] := by kernel_rfl
theorem fieldsG : (Try.prog.fieldsOf 45).toList.map (fun f => (f.name, f.type, f.offset)) = [("Peer", 3, 0), ("Epoch", 3, 1)] := by kernel_rfl
theorem stoodF : Try.prog.stoodInHeld 69 = false := by kernel_rfl
theorem stoodG : Try.prog.stoodInHeld 45 = false := by kernel_rfl
section
variable (a e : Int) (sv : Bool) (sb : Nat → Int) (dv : Bool) (db : Nat → Int) (p i : Int) (w : World)
theorem partF0 : (part 45 (SC 38 (fmV a e sv sb dv db p i)) 0).run Try.prog w = .ok (.agg (SC 2 (tgV a e))) w := by kernel_rfl
theorem partF1 : (part 24 (SC 38 (fmV a e sv sb dv db p i)) 2).run Try.prog w = .ok (.agg (SC 17 (adV sv sb))) w := by kernel_rfl
theorem partF2 : (part 24 (SC 38 (fmV a e sv sb dv db p i)) 19).run Try.prog w = .ok (.agg (SC 17 (adV dv db))) w := by kernel_rfl
theorem partF3 : (part 3 (SC 38 (fmV a e sv sb dv db p i)) 36).run Try.prog w = .ok (.int .i64 p) w := by kernel_rfl
theorem partF4 : (part 3 (SC 38 (fmV a e sv sb dv db p i)) 37).run Try.prog w = .ok (.int .i64 i) w := by kernel_rfl
theorem partG0 : (part 3 (SC 2 (tgV a e)) 0).run Try.prog w = .ok (.int .i64 a) w := by kernel_rfl
theorem partG1 : (part 3 (SC 2 (tgV a e)) 1).run Try.prog w = .ok (.int .i64 e) w := by kernel_rfl
theorem chkF (em : Bool) : (Instr.checkKey em 10000 69 (.agg (SC 38 (fmV a e sv sb dv db p i)))).run Try.prog w = .ok () w := by kernel_rfl
end
theorem eqfF {f : Field} {fs : List Field} {xs ys : Array Value} {d n : Nat} {nm : String} {t o : Nat} {w : World} {u v : Value} {z r : Bool} (hf : (f.name, f.type, f.offset) = (nm, t, o)) (hn : nm ≠ "_") (hp : (part t xs o).run Try.prog w = .ok u w) (hq : (part t ys o).run Try.prog w = .ok v w) (he : (Op.equalIn d t u v).run Try.prog w = .ok z w) (hr : (Op.eqFields d xs ys fs).run Try.prog w = .ok r w) (hd : n = d) : (Op.eqFields n xs ys (f :: fs)).run Try.prog w = .ok (z && r) w := by
  subst hd
  simp only [Prod.mk.injEq] at hf
  obtain ⟨n0, t0, o0⟩ := hf
  simp only [Op.eqFields, n0, t0, o0, if_pos hn, Sem.run_bind, hp, hq, Result.andThen_ok, he]
  cases z
  · simp
  · simp [hr]
theorem two_of {α β : Type} {g : α → β} {l : List α} {x y : β} (h : l.map g = [x, y]) : ∃ a b, l = [a, b] ∧ g a = x ∧ g b = y := by
  match l, h with
  | [a, b], h => simp at h; exact ⟨a, b, rfl, h.1, h.2⟩
  | [], h => simp at h
  | [_], h => simp at h
  | _ :: _ :: _ :: _, h => simp at h
theorem five_of {α β : Type} {g : α → β} {l : List α} {x y z u v : β} (h : l.map g = [x, y, z, u, v]) : ∃ a b c d e, l = [a, b, c, d, e] ∧ g a = x ∧ g b = y ∧ g c = z ∧ g d = u ∧ g e = v := by
  match l, h with
  | [a, b, c, d, e], h => simp at h; exact ⟨a, b, c, d, e, rfl, h.1, h.2.1, h.2.2.1, h.2.2.2.1, h.2.2.2.2⟩
  | [], h => simp at h
  | [_], h => simp at h
  | [_, _], h => simp at h
  | [_, _, _], h => simp at h
  | [_, _, _, _], h => simp at h
  | _ :: _ :: _ :: _ :: _ :: _ :: _, h => simp at h
theorem nil_fields (d : Nat) (xs ys : Array Value) (w : World) : (Op.eqFields d xs ys []).run Try.prog w = .ok true w := by simp [Op.eqFields]
theorem equal_addrD (v : Bool) (b : Nat → Int) (v' : Bool) (b' : Nat → Int) (d : Nat) (w : World) : (Op.equalIn (d + 1 + 1 + 1) 24 (.agg (SC 17 (adV v b))) (.agg (SC 17 (adV v' b')))).run Try.prog w = .ok (eqAF v b v' b') w := by
  rw [run_equalIn_struct w (d + 1 + 1) 24 _ _ Try.underlying24 stoodA]
  obtain ⟨f0, f1, hl, h0, h1⟩ := two_of fieldsA
  rw [hl, show eqAF v b v' b' = ((v == v') && ((List.range 16).all (fun i => b i == b' i) && true)) from by unfold eqAF; rw [Bool.and_true]]
  exact eqfF h0 (by decide) (partA0 v b w) (partA0 v' b' w) (run_equalIn_bool w (d + 1) 4 v v' Try.underlying4) (eqfF h1 (by decide) (partA1 v b w) (partA1 v' b' w) (equal_b16 b b' d w) (nil_fields _ _ _ w) rfl) rfl
theorem equal_tag (a e a' e' : Int) (d : Nat) (w : World) : (Op.equalIn (d + 1 + 1) 45 (.agg (SC 2 (tgV a e))) (.agg (SC 2 (tgV a' e')))).run Try.prog w = .ok ((a == a') && ((e == e') && true)) w := by
  rw [run_equalIn_struct w (d + 1) 45 _ _ Try.underlying45 stoodG]
  obtain ⟨f0, f1, hl, h0, h1⟩ := two_of fieldsG
  rw [hl]
  exact eqfF h0 (by decide) (partG0 a e w) (partG0 a' e' w) (run_equalIn_int w d 3 .i64 .i64 _ _ Try.underlying3) (eqfF h1 (by decide) (partG1 a e w) (partG1 a' e' w) (run_equalIn_int w d 3 .i64 .i64 _ _ Try.underlying3) (nil_fields _ _ _ w) rfl) rfl
theorem equal_fam {a e a' e' p i p' i' : Int} {sv sv' dv dv' : Bool} {sb sb' db db' : Nat → Int} (w : World) : (Op.equalIn 10000 69 (.agg (SC 38 (fmV a e sv sb dv db p i))) (.agg (SC 38 (fmV a' e' sv' sb' dv' db' p' i')))).run Try.prog w = .ok (decide (famL a e sv sb dv db p i = famL a' e' sv' sb' dv' db' p' i')) w := by
  have hdec : decide (famL a e sv sb dv db p i = famL a' e' sv' sb' dv' db' p' i') = (((a == a') && ((e == e') && true)) && (eqAF sv sb sv' sb' && (eqAF dv db dv' db' && ((p == p') && ((i == i') && true))))) := by
    rw [Bool.eq_iff_iff]
    simp only [decide_eq_true_eq, famL_inj, Bool.and_eq_true, beq_iff_eq, eqAF_iff, and_true]
    constructor
    · rintro ⟨h1, h2, h3, h4, h5, h6, h7, h8⟩
      exact ⟨⟨h1, h2⟩, ⟨h3, h4⟩, ⟨h5, h6⟩, h7, h8⟩
    · rintro ⟨⟨h1, h2⟩, ⟨h3, h4⟩, ⟨h5, h6⟩, h7, h8⟩
      exact ⟨h1, h2, h3, h4, h5, h6, h7, h8⟩
  rw [hdec, show (10000 : Nat) = 9996 + 1 + 1 + 1 + 1 from rfl, run_equalIn_struct w (9996 + 1 + 1 + 1) 69 _ _ Try.underlying69 stoodF]
  obtain ⟨f0, f1, f2, f3, f4, hl, h0, h1, h2, h3, h4⟩ := five_of fieldsF
  rw [hl]
  exact eqfF h0 (by decide) (partF0 _ _ _ _ _ _ _ _ w) (partF0 _ _ _ _ _ _ _ _ w) (equal_tag _ _ _ _ (9996 + 1) w)
    (eqfF h1 (by decide) (partF1 _ _ _ _ _ _ _ _ w) (partF1 _ _ _ _ _ _ _ _ w) (equal_addrD _ _ _ _ 9996 w)
    (eqfF h2 (by decide) (partF2 _ _ _ _ _ _ _ _ w) (partF2 _ _ _ _ _ _ _ _ w) (equal_addrD _ _ _ _ 9996 w)
    (eqfF h3 (by decide) (partF3 _ _ _ _ _ _ _ _ w) (partF3 _ _ _ _ _ _ _ _ w) (run_equalIn_int w (9996 + 1 + 1) 3 .i64 .i64 _ _ Try.underlying3)
    (eqfF h4 (by decide) (partF4 _ _ _ _ _ _ _ _ w) (partF4 _ _ _ _ _ _ _ _ w) (run_equalIn_int w (9996 + 1 + 1) 3 .i64 .i64 _ _ Try.underlying3) (nil_fields _ _ _ w) rfl) rfl) rfl) rfl) rfl
theorem equal_key {k l : Value} {F G : Fam} (hk : KeyIs k F) (hl : KeyIs l G) (w : World) : (Op.equal 69 k l).run Try.prog w = .ok (decide (F = G)) w := by
  obtain ⟨a, e, sv, sb, dv, db, p, i, rfl, rfl⟩ := hk
  obtain ⟨a', e', sv', sb', dv', db', p', i', rfl, rfl⟩ := hl
  exact equal_fam w
theorem chk_key {k : Value} {F : Fam} (hk : KeyIs k F) (em : Bool) (w : World) : (Instr.checkKey em 10000 69 k).run Try.prog w = .ok () w := by
  obtain ⟨a, e, sv, sb, dv, db, p, i, rfl, rfl⟩ := hk
  exact chkF _ _ _ _ _ _ _ _ w em
/-- A pointer to a block of its own. -/
def pt (b : Nat) : Value := .pointer (some ⟨b, 0, none⟩)
/-- The entries of a map of heaps. -/
def EsAt : List (Fam × Nat) → List MapEntry → Prop
  | [], [] => True
  | c :: L, x :: es => KeyIs x.key c.1 ∧ x.val = pt c.2 ∧ EsAt L es
  | _, _ => False
theorem EsAt.len : ∀ {L : List (Fam × Nat)} {es : List MapEntry}, EsAt L es → es.length = L.length
  | [], [], _ => rfl
  | _ :: L, _ :: es, h => by rw [List.length_cons, List.length_cons, EsAt.len h.2.2]
  | [], _ :: _, h => h.elim
  | _ :: _, [], h => h.elim
theorem EsAt.at : ∀ {L : List (Fam × Nat)} {es : List MapEntry}, EsAt L es → ∀ {x : MapEntry}, x ∈ es → ∃ c ∈ L, KeyIs x.key c.1 ∧ x.val = pt c.2
  | _ :: L, _ :: es, h, x, hx => by
    rcases List.mem_cons.1 hx with rfl | hx
    · exact ⟨_, by simp, h.1, h.2.1⟩
    · obtain ⟨c, h1, h2⟩ := EsAt.at h.2.2 hx
      exact ⟨c, by simp [h1], h2⟩
  | [], _ :: _, h, _, _ => h.elim
theorem EsAt.snoc : ∀ {L : List (Fam × Nat)} {es : List MapEntry}, EsAt L es → ∀ {c : Fam × Nat} {x : MapEntry}, KeyIs x.key c.1 → x.val = pt c.2 → EsAt (L ++ [c]) (es ++ [x])
  | [], [], _, _, _, h1, h2 => ⟨h1, h2, trivial⟩
  | _ :: _, _ :: _, h, _, _, h1, h2 => ⟨h.1, h.2.1, EsAt.snoc h.2.2 h1 h2⟩
  | [], _ :: _, h, _, _, _, _ => h.elim
  | _ :: _, [], h, _, _, _, _ => h.elim
theorem EsAt.erase : ∀ {L : List (Fam × Nat)} {es : List MapEntry}, EsAt L es → ∀ i, EsAt (L.eraseIdx i) (es.eraseIdx i)
  | [], [], _, _ => trivial
  | _ :: _, _ :: _, h, 0 => h.2.2
  | _ :: _, _ :: _, h, i + 1 => ⟨h.1, h.2.1, EsAt.erase h.2.2 i⟩
  | [], _ :: _, h, _ => h.elim
  | _ :: _, [], h, _ => h.elim
theorem find_asking {k : Value} {F : Fam} (hk : KeyIs k F) (w : World) : ∀ {L : List (Fam × Nat)} {es : List MapEntry}, EsAt L es → ∀ i,
    ((Instr.findAsking 69 k es i).run Try.prog w = .ok none w ∧ ∀ c ∈ L, c.1 ≠ F) ∨ ∃ j c, (Instr.findAsking 69 k es i).run Try.prog w = .ok (some (i + j, pt c.2)) w ∧ L[j]? = some c ∧ c.1 = F ∧ ∀ q, q < j → ∀ d, L[q]? = some d → d.1 ≠ F
  | [], [], _, i => .inl ⟨by simp [Instr.findAsking], by simp⟩
  | c :: L, x :: es, h, i => by
    have he := equal_key hk h.1 w
    by_cases e : F = c.1
    · right
      rw [decide_eq_true e] at he
      exact ⟨0, c, by simp [Instr.findAsking, he, h.2.1], rfl, e.symm, fun q hq => absurd hq (Nat.not_lt_zero _)⟩
    · rw [decide_eq_false e] at he
      rcases find_asking hk w h.2.2 (i + 1) with ⟨h1, h2⟩ | ⟨j, d, h1, h2, h3, h4⟩
      · left
        refine ⟨by simp [Instr.findAsking, he, h1], fun d hd => ?_⟩
        rcases List.mem_cons.1 hd with rfl | hd
        · exact fun e2 => e e2.symm
        · exact h2 d hd
      · right
        refine ⟨j + 1, d, by simp [Instr.findAsking, he, h1, Nat.add_assoc, Nat.add_comm 1 j], by simpa using h2, h3, fun q hq u hu => ?_⟩
        cases q with
        | zero => simp at hu; subst hu; exact fun e2 => e e2.symm
        | succ q => exact h4 q (by omega) u (by simpa using hu)
  | [], _ :: _, h, _ => h.elim
  | _ :: _, [], h, _ => h.elim
theorem wideF : (match Try.prog.underlying 69 with | some (.array _ _) | some (.struct _) => true | _ => false) = true := by kernel_rfl
theorem find_key (k : Value) (es : List MapEntry) (w : World) : (Instr.findKey 69 k es).run Try.prog w = (Instr.findAsking 69 k es).run Try.prog w := run_findKey_eq w wideF k es
/-- Block m is a map of heaps. -/
def MapAt (w : World) (m : Nat) (L : List (Fam × Nat)) : Prop := ∃ es clock, w.heap[m]? = some (.map es clock) ∧ EsAt L es.toList ∧ (es.toList.map (·.born)).Nodup ∧ ∀ x ∈ es.toList, x.born < clock
def hasK (L : List (Fam × Nat)) (F : Fam) : Option (Fam × Nat) := L.find? (fun c => decide (c.1 = F))
theorem hasK_no {L : List (Fam × Nat)} {F : Fam} (h : ∀ c ∈ L, c.1 ≠ F) : hasK L F = none := by
  unfold hasK
  rw [List.find?_eq_none]
  intro c hc
  simpa using h c hc
theorem hasK_yes : ∀ {L : List (Fam × Nat)} {F : Fam} {j : Nat} {c : Fam × Nat}, L[j]? = some c → c.1 = F → (∀ q, q < j → ∀ d, L[q]? = some d → d.1 ≠ F) → hasK L F = some c
  | [], _, _, _, h, _, _ => by simp at h
  | x :: L, F, 0, c, h, e, _ => by
    simp at h
    subst h
    unfold hasK
    rw [List.find?_cons_of_pos (by simpa using e)]
  | x :: L, F, j + 1, c, h, e, hn => by
    have h0 := hn 0 (by omega) x rfl
    have ih := hasK_yes (L := L) (by simpa using h) e (fun q hq d hd => hn (q + 1) (by omega) d (by simpa using hd))
    unfold hasK at ih ⊢
    rw [List.find?_cons_of_neg (by simpa using h0)]
    exact ih
theorem erase_filter : ∀ {L : List (Fam × Nat)} {F : Fam} {j : Nat} {c : Fam × Nat}, (L.map (·.1)).Nodup → L[j]? = some c → c.1 = F → L.eraseIdx j = L.filter (fun c => !decide (c.1 = F))
  | [], _, _, _, _, h, _ => by simp at h
  | x :: L, F, 0, c, hn, h, e => by
    simp at h
    subst h
    rw [List.map_cons, List.nodup_cons] at hn
    rw [List.eraseIdx_zero, List.tail_cons, List.filter_cons_of_neg (by simpa using e)]
    symm
    rw [List.filter_eq_self]
    intro d hd
    have : d.1 ≠ F := fun e2 => hn.1 (by rw [e, ← e2]; exact List.mem_map_of_mem hd)
    simpa using this
  | x :: L, F, j + 1, c, hn, h, e => by
    rw [List.map_cons, List.nodup_cons] at hn
    have h1 : L[j]? = some c := by simpa using h
    have ih := erase_filter hn.2 h1 e
    have hx : x.1 ≠ F := fun e2 => hn.1 (by rw [e2, ← e]; exact List.mem_map_of_mem (List.mem_of_getElem? h1))
    rw [List.eraseIdx_cons_succ, ih, List.filter_cons_of_pos (by simpa using hx)]
theorem MapAt.block {w w' : World} {m : Nat} {L : List (Fam × Nat)} (h : MapAt w m L) (e : w'.heap[m]? = w.heap[m]?) : MapAt w' m L := by
  obtain ⟨es, cl, h1, h2⟩ := h
  exact ⟨es, cl, e.trans h1, h2⟩
theorem MapAt.lt {w : World} {m : Nat} {L : List (Fam × Nat)} (h : MapAt w m L) : m < w.heap.size := by
  obtain ⟨es, cl, h1, _⟩ := h
  exact heap_lt h1
theorem MapAt.kept {w w' : World} {m : Nat} {L : List (Fam × Nat)} (h : MapAt w m L) (hb : Below w.heap.size w w') : MapAt w' m L := h.block (hb.block m h.lt)
def lookV (L : List (Fam × Nat)) (F : Fam) : Value := match hasK L F with | some c => pt c.2 | none => .pointer none
theorem run_lookF {w : World} {m : Nat} {L : List (Fam × Nat)} (h : MapAt w m L) {k : Value} {F : Fam} (hk : KeyIs k F) (ok : Bool) : (Instr.lookup 61 (.map (some m)) k ok).run Try.prog w = .ok (if ok = true then .tuple #[lookV L F, .bool (hasK L F).isSome] else lookV L F) w := by
  obtain ⟨es, cl, h1, h2, _⟩ := h
  have hz : (zeroValue 71).run Try.prog w = .ok (.pointer none) w := by kernel_rfl
  unfold Instr.lookup
  simp only [Sem.run_bind, run_underlying Try.underlying61 w, Result.andThen_ok, getObj]
  rcases find_asking hk w h2 0 with ⟨e, hn⟩ | ⟨j, c, e, hj, hc, hn⟩
  · have hx := hasK_no hn
    unfold lookV
    simp only [hx]
    cases ok <;> simp [Sem.run, h1, e, hz, chk_key hk, find_key] <;> rfl
  · have hx := hasK_yes hj hc hn
    unfold lookV
    simp only [hx]
    cases ok <;> simp [Sem.run, h1, e, chk_key hk, find_key] <;> rfl
theorem run_setM {w : World} {m : Nat} {es : Array MapEntry} {cl : Nat} (h : w.heap[m]? = some (.map es cl)) (o : Obj) : (setObj m o).run Try.prog w = .ok () (Go.ChangeMaps.setBlock w m o) := by
  simp [setObj, Sem.run, h, Go.ChangeMaps.setBlock]
theorem setB_at {w : World} {m : Nat} (h : m < w.heap.size) (o : Obj) : (Go.ChangeMaps.setBlock w m o).heap[m]? = some o := by
  simp [Go.ChangeMaps.setBlock, h]
theorem setB_only (w : World) (m : Nat) (o : Obj) : Only m w (Go.ChangeMaps.setBlock w m o) := ⟨rfl, rfl, rfl, by simp [Go.ChangeMaps.setBlock], fun k hk => by simp [Go.ChangeMaps.setBlock, Array.getElem?_setIfInBounds_ne (fun e => hk e.symm)]⟩
theorem run_delF {w : World} {m : Nat} {L : List (Fam × Nat)} (h : MapAt w m L) (hn : (L.map (·.1)).Nodup) {k : Value} {F : Fam} (hk : KeyIs k F) (t : TypeId) : ∃ w', (Builtin.delete_ #[61, 69] t #[.map (some m), k]).run Try.prog w = .ok (.tuple #[]) w' ∧ MapAt w' m (L.filter (fun c => !decide (c.1 = F))) ∧ Only m w w' := by
  have hlt := h.lt
  obtain ⟨es, cl, h1, h2, h3, h4⟩ := h
  have hb : ∀ o : Obj, Only m w (Go.ChangeMaps.setBlock w m o) := setB_only w m
  rcases find_asking hk w h2 0 with ⟨e, hno⟩ | ⟨j, c, e, hj, hc, hno⟩
  · refine ⟨Go.ChangeMaps.setBlock w m (.map es cl), ?_, ⟨es, cl, setB_at hlt _, ?_, h3, h4⟩, hb _⟩
    · unfold Builtin.delete_
      simp [Sem.run_bind, run_underlying Try.underlying61 w, getObj, Sem.run, h1, e, chk_key hk, find_key, run_setM h1]
    · rw [List.filter_eq_self.2 (fun c hc => by simpa using hno c hc)]
      exact h2
  · refine ⟨Go.ChangeMaps.setBlock w m (.map (es.eraseIdxIfInBounds j) cl), ?_, ⟨_, cl, setB_at hlt _, ?_, ?_, ?_⟩, hb _⟩
    · unfold Builtin.delete_
      simp [Sem.run_bind, run_underlying Try.underlying61 w, getObj, Sem.run, h1, e, chk_key hk, find_key, run_setM h1]
    · rw [Array.toList_eraseIdxIfInBounds, ← erase_filter hn hj hc]
      exact h2.erase j
    · rw [Array.toList_eraseIdxIfInBounds]
      exact List.Nodup.sublist (List.Sublist.map _ (List.eraseIdx_sublist _ _)) h3
    · rw [Array.toList_eraseIdxIfInBounds]
      exact fun x hx => h4 x (List.mem_of_mem_eraseIdx hx)
theorem run_newF {w : World} {m : Nat} {L : List (Fam × Nat)} (h : MapAt w m L) {k : Value} {F : Fam} (hk : KeyIs k F) (hno : ∀ c ∈ L, c.1 ≠ F) (b : Nat) : ∃ w', (Instr.mapUpdate 61 (.map (some m)) k (pt b)).run Try.prog w = .ok () w' ∧ MapAt w' m (L ++ [(F, b)]) ∧ Only m w w' := by
  have hlt := h.lt
  obtain ⟨es, cl, h1, h2, h3, h4⟩ := h
  rcases find_asking hk w h2 0 with ⟨e, _⟩ | ⟨j, c, _, hj, hc, _⟩
  · refine ⟨Go.ChangeMaps.setBlock w m (.map (es.push { key := k, val := pt b, born := cl }) (cl + 1)), ?_, ⟨_, _, setB_at hlt _, ?_, ?_, ?_⟩, setB_only _ _ _⟩
    · unfold Instr.mapUpdate
      simp [Sem.run_bind, run_underlying Try.underlying61 w, getObj, Sem.run, h1, e, chk_key hk, find_key, run_setM h1]
    · rw [Array.toList_push]
      exact h2.snoc hk rfl
    · rw [Array.toList_push, List.map_append, List.nodup_append]
      refine ⟨h3, by simp, fun x hx y hy e2 => ?_⟩
      simp at hy
      obtain ⟨z, hz, rfl⟩ := List.mem_map.1 hx
      have := h4 z hz
      omega
    · intro x hx
      rw [Array.toList_push] at hx
      rcases List.mem_append.1 hx with hx | hx
      · have := h4 x hx; omega
      · simp at hx; subst hx; exact Nat.lt_succ_self _
  · exact absurd hc (hno c (List.mem_of_getElem? hj))
theorem run_lenF {w : World} {m : Nat} {L : List (Fam × Nat)} (h : MapAt w m L) (t : TypeId) : (Builtin.len_ #[61] t #[.map (some m)]).run Try.prog w = .ok (.int .i64 (L.length : Int)) w := by
  obtain ⟨es, cl, h1, h2, _⟩ := h
  have := h2.len
  rw [Array.length_toList] at this
  simp [Builtin.len_, getObj, Sem.run, h1, goInt, this]
end Go.Proofs.Ythnlfjkpiohooaa
/-
  Own text. Pieces, heaps and boxes in memory.
-/
namespace Go.Proofs.Ythnlfjkpiohooaa
open Go.RowKit Go.Proofs
set_option maxRecDepth 100000
def pcV (P : Pk) (j : Nat) : Value := if j < 1 then .int .i64 P.off else if j < 2 then .bool P.more else .string P.pay
theorem pcV_one (P : Pk) (j : Nat) : (pcV P j).oneCell' = true := by
  unfold pcV
  split
  · rfl
  · split <;> rfl
def hpV (born num : Int) (hd : Pk) (hv ps : Value) (j : Nat) : Value := if j < 1 then .int .i64 born else if j < 2 then .int .i64 num else if j < 48 then pkV hd hv (j - 2) else ps
theorem hpV_one {born num : Int} {hd : Pk} {hv ps : Value} (h1 : hv.oneCell' = true) (h2 : ps.oneCell' = true) (j : Nat) : (hpV born num hd hv ps j).oneCell' = true := by
  unfold hpV
  split
  · rfl
  · split
    · rfl
    · split
      · exact pkV_one h1 _
      · exact h2
def bxV (mv : Value) (time begun : Int) (j : Nat) : Value := if j < 1 then mv else if j < 2 then .int .i64 time else .int .i64 begun
theorem bxV_one {mv : Value} {time begun : Int} (h : mv.oneCell' = true) (j : Nat) : (bxV mv time begun j).oneCell' = true := by
  unfold bxV
  split
  · exact h
  · split <;> rfl
theorem isPc : IsSt 82 3 := ⟨_, Try.underlying82, rfl, by kernel_rfl⟩
theorem isHp : IsSt 89 49 := ⟨_, Try.underlying89, rfl, by kernel_rfl⟩
theorem isBx : IsSt 63 3 := ⟨_, Try.underlying63, rfl, by kernel_rfl⟩
theorem isFm : IsSt 69 38 := ⟨_, Try.underlying69, rfl, by kernel_rfl⟩
theorem isTg : IsSt 45 2 := ⟨_, Try.underlying45, rfl, by kernel_rfl⟩
theorem zeroPc (w : World) : (zeroValue 82).run Try.prog w = .ok (.agg (SC 3 (pcV zeroP))) w := by kernel_rfl
theorem zeroFm (w : World) : (zeroValue 69).run Try.prog w = .ok (.agg (SC 38 (fmV 0 0 false (fun _ => 0) false (fun _ => 0) 0 0))) w := by kernel_rfl
section
variable {w : World} {g : Nat} {P : Pk} {born num time begun : Int} {hd : Pk} {hv ps mv : Value}
theorem pc_off (h : SAt w g 82 3 (pcV P)) : w.cell? ⟨g, 0, none⟩ = some (.int .i64 P.off) := h.at 0 (by decide)
theorem pc_more (h : SAt w g 82 3 (pcV P)) : w.cell? ⟨g, 1, none⟩ = some (.bool P.more) := h.at 1 (by decide)
theorem pc_pay (h : SAt w g 82 3 (pcV P)) : w.cell? ⟨g, 2, none⟩ = some (.string P.pay) := h.at 2 (by decide)
theorem hp_born (h : SAt w g 89 49 (hpV born num hd hv ps)) : w.cell? ⟨g, 0, none⟩ = some (.int .i64 born) := h.at 0 (by decide)
theorem hp_num (h : SAt w g 89 49 (hpV born num hd hv ps)) : w.cell? ⟨g, 1, none⟩ = some (.int .i64 num) := h.at 1 (by decide)
theorem hp_ps (h : SAt w g 89 49 (hpV born num hd hv ps)) : w.cell? ⟨g, 48, none⟩ = some ps := h.at 48 (by decide)
theorem bx_map (h : SAt w g 63 3 (bxV mv time begun)) : w.cell? ⟨g, 0, none⟩ = some mv := h.at 0 (by decide)
theorem bx_time (h : SAt w g 63 3 (bxV mv time begun)) : w.cell? ⟨g, 1, none⟩ = some (.int .i64 time) := h.at 1 (by decide)
theorem bx_begun (h : SAt w g 63 3 (bxV mv time begun)) : w.cell? ⟨g, 2, none⟩ = some (.int .i64 begun) := h.at 2 (by decide)
theorem ldQ {p : Addr} {x : Value} (h : w.cell? p = some x) : (Instr.loadAt 87 (.pointer (some p))).run Try.prog w = .ok x w := by simp [go_sem, h]
theorem ldM {p : Addr} {x : Value} (h : w.cell? p = some x) : (Instr.loadAt 61 (.pointer (some p))).run Try.prog w = .ok x w := by simp [go_sem, h]
theorem ldB {p : Addr} {x : Value} (h : w.cell? p = some x) : (Instr.loadAt 40 (.pointer (some p))).run Try.prog w = .ok x w := by simp [go_sem, h]
theorem ld_head (h : SAt w g 89 49 (hpV born num hd hv ps)) : (Instr.loadAt 27 (.pointer (some ⟨g, 2, none⟩))).run Try.prog w = .ok (.agg (SC 46 (pkV hd hv))) w := by
  refine run_loadAt_addr w ⟨g, 2, none⟩ 27 ((List.range 46).map (pkV hd hv)) _ (fun j x hj => ?_) Try.underlying27 rfl (by rw [List.length_map, List.length_range]; kernel_rfl)
  rw [List.getElem?_map] at hj
  have hl : j < 46 := by
    rcases Nat.lt_or_ge j 46 with h | h
    · exact h
    · rw [List.getElem?_eq_none (by simpa using h)] at hj; cases hj
  rw [List.getElem?_range hl] at hj
  rw [Addr.add_lit, h.at (2 + j) (by omega)]
  unfold hpV
  rw [if_neg (by omega), if_neg (by omega), if_pos (by omega), Nat.add_sub_cancel_left]
  exact hj
end
section
variable {a : Act} {o : Oper} {w : World} {x y : Operand} {t : TypeId}
theorem exec_fpc (k : Nat) (hk : k < 3) (ho : o.op = .fieldAddr 82 x k) {ad : Addr} (hx : a.eval x = .pointer (some ad)) : (execOp a.eval o).run Try.prog w = .ok (.value (.pointer (some (ad.add k)))) w := by
  have h : (Instr.fieldAt 82 (.pointer (some ad)) k).run Try.prog w = .ok (.pointer (some (ad.add k))) w := by
    match k, hk with
    | 0, _ => simp [go_sem]
    | 1, _ => simp [go_sem]
    | 2, _ => simp [go_sem]
  unfold execOp
  simp only [ho, hx, Sem.run_bind, h, Result.andThen_ok, Sem.run_pure]
theorem exec_fpcG (k : Nat) (hk : k < 3) (ho : o.op = .fieldAddr 82 x k) {g : Nat} (hx : a.eval x = .pointer (some ⟨g, 0, none⟩)) : (execOp a.eval o).run Try.prog w = .ok (.value (.pointer (some ⟨g, k, none⟩))) w := by
  have := exec_fpc (w := w) k hk ho hx
  rwa [Addr.add_lit, Nat.zero_add] at this
def hpO (k : Nat) : Nat := if k < 3 then k else 48
theorem exec_fhp (k : Nat) (hk : k < 4) (ho : o.op = .fieldAddr 89 x k) {g : Nat} (hx : a.eval x = .pointer (some ⟨g, 0, none⟩)) : (execOp a.eval o).run Try.prog w = .ok (.value (.pointer (some ⟨g, hpO k, none⟩))) w := by
  have h : (Instr.fieldAt 89 (.pointer (some ⟨g, 0, none⟩)) k).run Try.prog w = .ok (.pointer (some ⟨g, hpO k, none⟩)) w := by
    match k, hk with
    | 0, _ => simp [go_sem, hpO]
    | 1, _ => simp [go_sem, hpO]
    | 2, _ => simp [go_sem, hpO]
    | 3, _ => simp [go_sem, hpO]
  unfold execOp
  simp only [ho, hx, Sem.run_bind, h, Result.andThen_ok, Sem.run_pure]
theorem exec_fbx (k : Nat) (hk : k < 3) (ho : o.op = .fieldAddr 63 x k) {g : Nat} (hx : a.eval x = .pointer (some ⟨g, 0, none⟩)) : (execOp a.eval o).run Try.prog w = .ok (.value (.pointer (some ⟨g, k, none⟩))) w := by
  have h : (Instr.fieldAt 63 (.pointer (some ⟨g, 0, none⟩)) k).run Try.prog w = .ok (.pointer (some ⟨g, k, none⟩)) w := by
    match k, hk with
    | 0, _ => simp [go_sem]
    | 1, _ => simp [go_sem]
    | 2, _ => simp [go_sem]
  unfold execOp
  simp only [ho, hx, Sem.run_bind, h, Result.andThen_ok, Sem.run_pure]
theorem exec_ixQ (ho : o.op = .indexAddr 87 x y) {p : Addr} {n c i : Nat} (hx : a.eval x = .slice (some p) n c) (hy : a.eval y = .int .i64 (i : Int)) (hi : i < n) : (execOp a.eval o).run Try.prog w = .ok (.value (.pointer (some (p.add (3 * i))))) w := by
  unfold execOp
  simp only [ho, hx, hy, Sem.run_bind]
  rw [run_indexAt_slice w 87 _ n c .i64 (i : Int) Try.underlying87, if_pos ⟨by omega, by omega⟩]
  have e : (sizeOf (Try.prog.elem 87)).run Try.prog w = .ok 3 w := by kernel_rfl
  simp [e, Nat.mul_comm]
theorem exec_lenQ (ho : o.op = .call { callee := .builtin .len, args := #[x], argTypes := #[87] }) {ad : Option Addr} {n c : Nat} (hx : a.eval x = .slice ad n c) : (execOp a.eval o).run Try.prog w = .ok (.value (.int .i64 (n : Int))) w := by
  have hr : (Builtin.len_ #[87] o.type #[.slice ad n c]).run Try.prog w = .ok (goInt n) w := by simp [go_sem]
  simp [execOp, ho, resolve, invoke, builtin, hx, hr, goInt]
theorem exec_lenM (ho : o.op = .call { callee := .builtin .len, args := #[x], argTypes := #[61] }) {m : Nat} {L : List (Fam × Nat)} (hm : MapAt w m L) (hx : a.eval x = .map (some m)) : (execOp a.eval o).run Try.prog w = .ok (.value (.int .i64 (L.length : Int))) w := by
  have hr := run_lenF hm o.type
  simp [execOp, ho, resolve, invoke, builtin, hx, hr]
theorem exec_lenM0 (ho : o.op = .call { callee := .builtin .len, args := #[x], argTypes := #[61] }) (hx : a.eval x = .map none) : (execOp a.eval o).run Try.prog w = .ok (.value (.int .i64 0)) w := by
  have hr : (Builtin.len_ #[61] o.type #[.map none]).run Try.prog w = .ok (.int .i64 0) w := by simp [go_sem, goInt]
  simp [execOp, ho, resolve, invoke, builtin, hx, hr]
theorem ldPc {p : Addr} {P : Pk} (h1 : w.cell? p = some (.int .i64 P.off)) (h2 : w.cell? (p.add 1) = some (.bool P.more)) (h3 : w.cell? (p.add 2) = some (.string P.pay)) : (Instr.loadAt 82 (.pointer (some p))).run Try.prog w = .ok (.agg (SC 3 (pcV P))) w := by
  refine run_loadAt_addr w p 82 [.int .i64 P.off, .bool P.more, .string P.pay] _ (fun j x hj => ?_) Try.underlying82 rfl (by kernel_rfl)
  match j, hj with
  | 0, hj =>
    simp at hj
    subst hj
    have e0 : p.add 0 = p := by cases p with | mk b o q => cases q <;> simp [Addr.add]
    rw [e0]
    exact h1
  | 1, hj => simp at hj; subst hj; exact h2
  | 2, hj => simp at hj; subst hj; exact h3
end
/-- A row of pieces. -/
def rowS (S : List Pk) (j : Nat) : Nat → Value := pcV (S.getD j zeroP)
def PRow (w : World) (B : Nat) (v : Value) (S : List Pk) : Prop := w.ownsRow B 82 3 v S.length (rX 3 (rowS S) S.length)
theorem row_cell {w : World} {B : Nat} {p : Addr} {c : Nat} {S : List Pk} (h : PRow w B (.slice (some p) S.length c) S) {i f : Nat} (hi : i < S.length) (hf : f < 3) : w.cell? (p.add (3 * i + f)) = some (pcV (S.getD i zeroP) f) := by
  have := h.2
  rcases this with ⟨e, _⟩ | ⟨g, cap, cur, e, _⟩
  · cases e
  · injection e with e _ _
    injection e with e
    subst e
    exact h.cells (g := g) rfl (3 * i + f) _ (rX_at 3 _ _ i f hi hf)
theorem row_ld {w : World} {B : Nat} {p : Addr} {c : Nat} {S : List Pk} (h : PRow w B (.slice (some p) S.length c) S) {i : Nat} (hi : i < S.length) : (Instr.loadAt 82 (.pointer (some (p.add (3 * i))))).run Try.prog w = .ok (.agg (SC 3 (pcV (S.getD i zeroP)))) w := by
  have h0 := row_cell h hi (f := 0) (by decide)
  have h1 := row_cell h hi (f := 1) (by decide)
  have h2 := row_cell h hi (f := 2) (by decide)
  refine ldPc h0 ?_ ?_
  · rw [Addr.add_add]; exact h1
  · rw [Addr.add_add]; exact h2
theorem row_shape {w : World} {B : Nat} {v : Value} {S : List Pk} (h : PRow w B v S) : ∃ p cap, v = .slice p S.length cap ∧ (0 < S.length → ∃ g, p = some ⟨g, 0, none⟩) := ownM_shape h
/-- Extension headers that lie in a block of their own (or are none). -/
def exK : Value → Option Nat
  | .slice (some ad) (_ + 1) _ => some ad.block
  | _ => none
theorem cell_blk {w w' : World} {p : Addr} (e : w'.heap[p.block]? = w.heap[p.block]?) : w'.cell? p = w.cell? p := by unfold World.cell?; rw [e]
theorem ExAt.blk {w w' : World} {v : Value} {l : List Ex} (h : ExAt w v l) (e : ∀ k, exK v = some k → w'.heap[k]? = w.heap[k]?) : ExAt w' v l := by
  obtain ⟨a, cap, rfl, h⟩ := h
  refine ⟨a, cap, rfl, fun j x hj => ?_⟩
  obtain ⟨ad, ha, hl, h1, h2⟩ := h j x hj
  subst ha
  have hne : l.length = l.length - 1 + 1 := by have := (List.getElem?_eq_some_iff.1 hj).1; omega
  have hh := e ad.block (by rw [hne]; rfl)
  have hlt : ad.block < w'.heap.size := by
    have : (w'.heap[ad.block]?).isSome = true := by rw [hh]; simp [hl]
    rcases Nat.lt_or_ge ad.block w'.heap.size with h | h
    · exact h
    · rw [Array.getElem?_eq_none h] at this; cases this
  refine ⟨ad, rfl, hlt, ?_, ?_⟩
  · exact (cell_blk (p := ad.add (2 * j)) (by rw [add_blk]; exact hh)).trans h1
  · exact (cell_blk (p := ad.add (2 * j + 1)) (by rw [add_blk]; exact hh)).trans h2
/-- A heap of the program: what it stands for, its block, its number, its pieces in order, its head. -/
structure Ch where
  h : Hp
  blk : Nat
  num : Int
  S : List Pk
  hd : Pk
  hv : Value
  ps : Value
/-- The blocks that are a heap's own. -/
def fp (c : Ch) (k : Nat) : Prop := k = c.blk ∨ c.ps.ownBlock = some k ∨ exK c.hv = some k
structure ChAt (w : World) (B : Nat) (c : Ch) : Prop where
  at_ : SAt w c.blk 89 49 (hpV c.h.born c.num c.hd c.hv c.ps)
  row : PRow w B c.ps c.S
  perm : c.h.ps.Perm c.S
  sor : Sor c.S
  one : c.hv.oneCell' = true
  exl : ∀ k, exK c.hv = some k → k < w.heap.size
  hd0 : ∀ P ∈ c.S, P.off = 0 → c.hd = bareP P ∧ ExAt w c.hv P.exts
  off_ : ∀ k, exK c.hv = some k → c.ps.ownBlock ≠ some k ∧ k ≠ c.blk
theorem row_one {w : World} {B : Nat} {v : Value} {S : List Pk} (h : PRow w B v S) : v.oneCell' = true := by
  obtain ⟨p, cap, rfl, _⟩ := row_shape h
  rfl
theorem row_lt {w : World} {B : Nat} {v : Value} {S : List Pk} (h : PRow w B v S) {k : Nat} (hk : v.ownBlock = some k) : k < w.heap.size := by
  rcases h.2 with ⟨rfl, _⟩ | ⟨g, cap, cur, rfl, _, hg, _⟩
  · cases hk
  · cases hk; exact heap_lt hg
theorem ChAt.lt {w : World} {B : Nat} {c : Ch} (h : ChAt w B c) {k : Nat} (hk : fp c k) : k < w.heap.size := by
  rcases hk with rfl | hk | hk
  · exact h.at_.lt
  · exact row_lt h.row hk
  · exact h.exl k hk
theorem some_lt {w w' : World} {k : Nat} (e : w'.heap[k]? = w.heap[k]?) (h : k < w.heap.size) : k < w'.heap.size := by
  rcases Nat.lt_or_ge k w'.heap.size with h2 | h2
  · exact h2
  · rw [Array.getElem?_eq_none h2, Array.getElem?_eq_getElem h] at e; cases e
theorem ChAt.block {w w' : World} {B : Nat} {c : Ch} (h : ChAt w B c) (e : ∀ k, fp c k → w'.heap[k]? = w.heap[k]?) : ChAt w' B c :=
  ⟨h.at_.block (e _ (.inl rfl)), ownM_block h.row (fun k hk => e k (.inr (.inl hk))), h.perm, h.sor, h.one, fun k hk => some_lt (e k (.inr (.inr hk))) (h.exl k hk), fun P hP h0 => ⟨(h.hd0 P hP h0).1, (h.hd0 P hP h0).2.blk (fun k hk => e k (.inr (.inr hk)))⟩, h.off_⟩
/-- What the field for the map holds. -/
def MvAt (w : World) (mv : Value) (cs : List Ch) : Prop := (mv = .map none ∧ cs = []) ∨ ∃ m, mv = .map (some m) ∧ MapAt w m (cs.map fun c => (c.h.fam, c.blk))
def mvB : Value → Option Nat
  | .map (some m) => some m
  | _ => none
/-- A box in memory; N: blocks that it has nothing to do with. -/
structure BoxAt (w : World) (B : Nat) (N : Nat → Prop) (g : Nat) (mv : Value) (b : Bx) (begun : Int) (cs : List Ch) : Prop where
  inv : InvB b
  at_ : SAt w g 63 3 (bxV mv b.time begun)
  map : MvAt w mv cs
  hs : cs.map Ch.h = b.hs
  all : ∀ c ∈ cs, ChAt w B c
  apart : cs.Pairwise (fun c d => ∀ k, fp c k → ¬ fp d k)
  num : cs.Pairwise (fun c d => c.num < d.num)
  num0 : ∀ c ∈ cs, 0 ≤ c.num ∧ c.num < begun
  beg : 0 ≤ begun ∧ begun < 4611686018427387904
  gB : B ≤ g
  far : ∀ c ∈ cs, ∀ k, fp c k → k ≠ g ∧ mvB mv ≠ some k ∧ ¬ N k
  gN : ¬ N g
  mN : ∀ k, mvB mv = some k → ¬ N k
end Go.Proofs.Ythnlfjkpiohooaa
/-
  Own text. Small functions of the program and of the document: numbers within bounds, kinds of headers.
-/
namespace Go.Proofs.Ythnlfjkpiohooaa
open Go.RowKit Go.Proofs
set_option maxRecDepth 100000
theorem isEx_d (k : Int) : isEx k = (decide (k = 0) || decide (k = 43) || decide (k = 60)) := rfl
theorem isHd_d (k : Int) : isHd k = (isEx k || decide (k = 44)) := rfl
theorem isHd_e (k : Int) : isHd k = (decide (k = 0) || decide (k = 43) || decide (k = 44) || decide (k = 60)) := by
  unfold isHd isEx
  by_cases h : k = 60
  · subst h; decide
  · by_cases h2 : k = 44
    · subst h2; decide
    · have e1 : (k == 60) = false := by simpa using h
      have e2 : (k == 44) = false := by simpa using h2
      rw [e1, e2, decide_eq_false h, decide_eq_false h2, Bool.or_false, Bool.or_false, Bool.or_false, Bool.or_false]
      rfl
theorem mayB_d (k : Int) (i : Nat) : mayB k i = (decide ((i : Int) < 4) && (!decide (k = 0) || decide ((i : Int) = 0))) := by
  unfold mayB
  have e1 : decide (i < 4) = decide ((i : Int) < 4) := by congr 1; exact propext ⟨fun h => by omega, fun h => by omega⟩
  have e2 : decide (i = 0) = decide ((i : Int) = 0) := by congr 1; exact propext ⟨fun h => by omega, fun h => by omega⟩
  rw [e1, e2]
  rfl
set_option maxHeartbeats 4000000 in
theorem upTo_run (n m : Int) (w : World) : Calls Try.prog 31 #[.int .i64 n, .int .i64 m] w fun e w' => e = .returned (.bool (upB n m)) ∧ Below w.heap.size w w' := by
  go_enter Try.func31, Try.ntmps31
  go_upto_region 1 with fail
  refine wp_plain_steps (Below w.heap.size w) (fun v v' => Below v.heap.size v v') (fun j vv _ => vv = ([.int .i64 n, .bool (decide (0 ≤ n)), .bool (decide (0 ≤ n)), gv (decide (0 ≤ n)) (.int .i64 n), gv (decide (0 ≤ n)) (.int .i64 m), gv (decide (0 ≤ n)) (.bool (decide (n ≤ m))), .bool ((decide (0 ≤ n)) && (decide (n ≤ m))), .bool ((decide (0 ≤ n)) && (decide (n ≤ m)))] : List Value).getD j undef)
      [5, 6, 7, 8, 9, 10, 11, 4]
      [(0, .int .i64 n), (1, .int .i64 m)] [] 0
      [[], [0], [1], [2], [2], [2, 3, 4], [2, 5], [6]]
      (by kernel_rfl) ⟨rfl, rfl, trivial⟩ trivial (Below.refl _ _) (fun v v' h hb => h.trans (hb.mono h.size)) (fun _ _ _ _ h _ => h)
      ⟨
      (fun QQ aa ww hS fr kn => sg0 rfl (fun K hK => wp_value (exec_move rfl fr.1) (hK _ _ rfl (Below.refl _ _)))),
      (fun QQ aa ww hS fr kn => sg0 rfl (fun K hK => wp_value (cmp_ge (m := n) (n := 0) rfl kn.1 rfl) (hK _ _ rfl (Below.refl _ _)))),
      (fun QQ aa ww hS fr kn => sg0 rfl (fun K hK => wp_value (exec_move rfl kn.1) (hK _ _ rfl (Below.refl _ _)))),
      (fun QQ aa ww hS fr kn => sgT rfl kn.1 (fun hc K hK => wp_value (exec_move rfl fr.1) (hK _ _ (gv_t hc).symm (Below.refl _ _))) (fun h0 => (gv_f h0).symm)),
      (fun QQ aa ww hS fr kn => sgT rfl kn.1 (fun hc K hK => wp_value (exec_move rfl fr.2.1) (hK _ _ (gv_t hc).symm (Below.refl _ _))) (fun h0 => (gv_f h0).symm)),
      (fun QQ aa ww hS fr kn => sgT rfl kn.1 (fun hc K hK => wp_value (cmp_le (m := n) (n := m) rfl (kn.2.1.trans (gv_t hc)) (kn.2.2.1.trans (gv_t hc))) (hK _ _ (gv_t hc).symm (Below.refl _ _))) (fun h0 => (gv_f h0).symm)),
      (fun QQ aa ww hS fr kn => sg0 rfl (fun K hK => wp_value (exec_pickAnd rfl kn.1 (fun hx => kn.2.1.trans (gv_t hx)) rfl) (hK _ _ rfl (Below.refl _ _)))),
      (fun QQ aa ww hS fr kn => sg0 rfl (fun K hK => wp_value (exec_assign rfl kn.1) (hK _ _ rfl (Below.refl _ _)))),
      trivial⟩ ?_
  intro vs u2 hB2 kn
  have e4 : vs 4 = .bool ((decide (0 ≤ n)) && (decide (n ≤ m))) := kn 7 (by decide)
  clear kn
  simp only [putAll, Act.put, List.setIfInBounds_toArray, List.set_cons_zero, List.set_cons_succ, e4]
  clear e4
  go_wp2_with fail
  go_ret
  exact ⟨rfl, hB2⟩
set_option maxHeartbeats 4000000 in
theorem within_run (n m : Int) (w : World) : Calls Try.prog 45 #[.int .i64 n, .int .i64 m] w fun e w' => e = .returned (.bool (upB n m)) ∧ Below w.heap.size w w' := by
  go_enter Try.func45, Try.ntmps45
  go_upto_region 1 with fail
  refine wp_plain_steps (Below w.heap.size w) (fun v v' => Below v.heap.size v v') (fun j vv _ => vv = ([.int .i64 n, .bool (decide (0 ≤ n)), .bool (decide (0 ≤ n)), gv (decide (0 ≤ n)) (.int .i64 n), gv (decide (0 ≤ n)) (.int .i64 m), gv (decide (0 ≤ n)) (.bool (decide (n ≤ m))), .bool ((decide (0 ≤ n)) && (decide (n ≤ m))), .bool ((decide (0 ≤ n)) && (decide (n ≤ m)))] : List Value).getD j undef)
      [5, 6, 7, 8, 9, 10, 11, 4]
      [(0, .int .i64 n), (1, .int .i64 m)] [] 0
      [[], [0], [1], [2], [2], [2, 3, 4], [2, 5], [6]]
      (by kernel_rfl) ⟨rfl, rfl, trivial⟩ trivial (Below.refl _ _) (fun v v' h hb => h.trans (hb.mono h.size)) (fun _ _ _ _ h _ => h)
      ⟨
      (fun QQ aa ww hS fr kn => sg0 rfl (fun K hK => wp_value (exec_move rfl fr.1) (hK _ _ rfl (Below.refl _ _)))),
      (fun QQ aa ww hS fr kn => sg0 rfl (fun K hK => wp_value (cmp_ge (m := n) (n := 0) rfl kn.1 rfl) (hK _ _ rfl (Below.refl _ _)))),
      (fun QQ aa ww hS fr kn => sg0 rfl (fun K hK => wp_value (exec_move rfl kn.1) (hK _ _ rfl (Below.refl _ _)))),
      (fun QQ aa ww hS fr kn => sgT rfl kn.1 (fun hc K hK => wp_value (exec_move rfl fr.1) (hK _ _ (gv_t hc).symm (Below.refl _ _))) (fun h0 => (gv_f h0).symm)),
      (fun QQ aa ww hS fr kn => sgT rfl kn.1 (fun hc K hK => wp_value (exec_move rfl fr.2.1) (hK _ _ (gv_t hc).symm (Below.refl _ _))) (fun h0 => (gv_f h0).symm)),
      (fun QQ aa ww hS fr kn => sgT rfl kn.1 (fun hc K hK => wp_value (cmp_le (m := n) (n := m) rfl (kn.2.1.trans (gv_t hc)) (kn.2.2.1.trans (gv_t hc))) (hK _ _ (gv_t hc).symm (Below.refl _ _))) (fun h0 => (gv_f h0).symm)),
      (fun QQ aa ww hS fr kn => sg0 rfl (fun K hK => wp_value (exec_pickAnd rfl kn.1 (fun hx => kn.2.1.trans (gv_t hx)) rfl) (hK _ _ rfl (Below.refl _ _)))),
      (fun QQ aa ww hS fr kn => sg0 rfl (fun K hK => wp_value (exec_assign rfl kn.1) (hK _ _ rfl (Below.refl _ _)))),
      trivial⟩ ?_
  intro vs u2 hB2 kn
  have e4 : vs 4 = .bool ((decide (0 ≤ n)) && (decide (n ≤ m))) := kn 7 (by decide)
  clear kn
  simp only [putAll, Act.put, List.setIfInBounds_toArray, List.set_cons_zero, List.set_cons_succ, e4]
  clear e4
  go_wp2_with fail
  go_ret
  exact ⟨rfl, hB2⟩
set_option maxHeartbeats 4000000 in
theorem isExt_run (k : Int) (w : World) : Calls Try.prog 64 #[.int .i64 k] w fun e w' => e = .returned (.bool (isEx k)) ∧ Below w.heap.size w w' := by
  go_enter Try.func64, Try.ntmps64
  go_upto_region 1 with fail
  refine wp_plain_steps (Below w.heap.size w) (fun v v' => Below v.heap.size v v') (fun j vv _ => vv = ([.int .i64 k, .bool (decide (k = 0)), .bool (decide (k = 0)), gv (!(decide (k = 0))) (.int .i64 k), gv (!(decide (k = 0))) (.bool (decide (k = 43))), .bool ((decide (k = 0)) || (decide (k = 43))), .bool ((decide (k = 0)) || (decide (k = 43))), gv (!((decide (k = 0)) || (decide (k = 43)))) (.int .i64 k), gv (!((decide (k = 0)) || (decide (k = 43)))) (.bool (decide (k = 60))), .bool (((decide (k = 0)) || (decide (k = 43))) || (decide (k = 60))), .bool (((decide (k = 0)) || (decide (k = 43))) || (decide (k = 60)))] : List Value).getD j undef)
      [3, 4, 5, 6, 7, 8, 9, 10, 11, 12, 2]
      [(0, .int .i64 k)] [] 0
      [[], [0], [1], [2], [2, 3], [2, 4], [5], [6], [6, 7], [6, 8], [9]]
      (by kernel_rfl) ⟨rfl, trivial⟩ trivial (Below.refl _ _) (fun v v' h hb => h.trans (hb.mono h.size)) (fun _ _ _ _ h _ => h)
      ⟨
      (fun QQ aa ww hS fr kn => sg0 rfl (fun K hK => wp_value (exec_move rfl fr.1) (hK _ _ rfl (Below.refl _ _)))),
      (fun QQ aa ww hS fr kn => sg0 rfl (fun K hK => wp_value (cmp_eq (m := k) (n := 0) rfl kn.1 rfl) (hK _ _ rfl (Below.refl _ _)))),
      (fun QQ aa ww hS fr kn => sg0 rfl (fun K hK => wp_value (exec_move rfl kn.1) (hK _ _ rfl (Below.refl _ _)))),
      (fun QQ aa ww hS fr kn => sgF rfl kn.1 (fun hng K hK => have hc := nt_t hng; wp_value (exec_move rfl fr.1) (hK _ _ (gv_t hc).symm (Below.refl _ _))) (fun h0 => (gv_f (nt_f h0)).symm)),
      (fun QQ aa ww hS fr kn => sgF rfl kn.1 (fun hng K hK => have hc := nt_t hng; wp_value (cmp_eq (m := k) (n := 43) rfl (kn.2.1.trans (gv_t hc)) rfl) (hK _ _ (gv_t hc).symm (Below.refl _ _))) (fun h0 => (gv_f (nt_f h0)).symm)),
      (fun QQ aa ww hS fr kn => sg0 rfl (fun K hK => wp_value (exec_pickOr rfl kn.1 rfl (fun hx => kn.2.1.trans (gv_t (nt_t hx)))) (hK _ _ rfl (Below.refl _ _)))),
      (fun QQ aa ww hS fr kn => sg0 rfl (fun K hK => wp_value (exec_move rfl kn.1) (hK _ _ rfl (Below.refl _ _)))),
      (fun QQ aa ww hS fr kn => sgF rfl kn.1 (fun hng K hK => have hc := nt_t hng; wp_value (exec_move rfl fr.1) (hK _ _ (gv_t hc).symm (Below.refl _ _))) (fun h0 => (gv_f (nt_f h0)).symm)),
      (fun QQ aa ww hS fr kn => sgF rfl kn.1 (fun hng K hK => have hc := nt_t hng; wp_value (cmp_eq (m := k) (n := 60) rfl (kn.2.1.trans (gv_t hc)) rfl) (hK _ _ (gv_t hc).symm (Below.refl _ _))) (fun h0 => (gv_f (nt_f h0)).symm)),
      (fun QQ aa ww hS fr kn => sg0 rfl (fun K hK => wp_value (exec_pickOr rfl kn.1 rfl (fun hx => kn.2.1.trans (gv_t (nt_t hx)))) (hK _ _ rfl (Below.refl _ _)))),
      (fun QQ aa ww hS fr kn => sg0 rfl (fun K hK => wp_value (exec_assign rfl kn.1) (hK _ _ rfl (Below.refl _ _)))),
      trivial⟩ ?_
  intro vs u2 hB2 kn
  have e2 : vs 2 = .bool (((decide (k = 0)) || (decide (k = 43))) || (decide (k = 60))) := kn 10 (by decide)
  clear kn
  simp only [putAll, Act.put, List.setIfInBounds_toArray, List.set_cons_zero, List.set_cons_succ, e2]
  clear e2
  go_wp2_with fail
  go_ret
  exact ⟨by rw [isEx_d]; rfl, hB2⟩
theorem en_upTo (args : Array Value) (w : World) : (callFunc 31 args).run Try.prog w = .ok (.enter 31 args) w := by kernel_rfl
theorem en_within (args : Array Value) (w : World) : (callFunc 45 args).run Try.prog w = .ok (.enter 45 args) w := by kernel_rfl
theorem en_isExt (args : Array Value) (w : World) : (callFunc 64 args).run Try.prog w = .ok (.enter 64 args) w := by kernel_rfl
set_option maxHeartbeats 4000000 in
theorem isHeader_run (k : Int) (w : World) : Calls Try.prog 52 #[.int .i64 k] w fun e w' => e = .returned (.bool (isHd k)) ∧ Below w.heap.size w w' := by
  go_enter Try.func52, Try.ntmps52
  go_upto_region 1 with fail
  refine wp_plain_steps (Below w.heap.size w) (fun v v' => Below v.heap.size v v') (fun j vv _ => vv = ([.int .i64 k, .bool (isEx k), .bool (isEx k), gv (!(isEx k)) (.int .i64 k), gv (!(isEx k)) (.bool (decide (k = 44))), .bool ((isEx k) || (decide (k = 44))), .bool ((isEx k) || (decide (k = 44)))] : List Value).getD j undef)
      [3, 4, 5, 6, 7, 8, 2]
      [(0, .int .i64 k)] [] 0
      [[], [0], [1], [2], [2, 3], [2, 4], [5]]
      (by kernel_rfl) ⟨rfl, trivial⟩ trivial (Below.refl _ _) (fun v v' h hb => h.trans (hb.mono h.size)) (fun _ _ _ _ h _ => h)
      ⟨
      (fun QQ aa ww hS fr kn => sg0 rfl (fun K hK => wp_value (exec_move rfl fr.1) (hK _ _ rfl (Below.refl _ _)))),
      (fun QQ aa ww hS fr kn => sg0 rfl (fun K hK => stepc en_isExt rfl (args1 kn.1) (isExt_run k ww) (fun w' hb => hK _ _ rfl hb))),
      (fun QQ aa ww hS fr kn => sg0 rfl (fun K hK => wp_value (exec_move rfl kn.1) (hK _ _ rfl (Below.refl _ _)))),
      (fun QQ aa ww hS fr kn => sgF rfl kn.1 (fun hng K hK => have hc := nt_t hng; wp_value (exec_move rfl fr.1) (hK _ _ (gv_t hc).symm (Below.refl _ _))) (fun h0 => (gv_f (nt_f h0)).symm)),
      (fun QQ aa ww hS fr kn => sgF rfl kn.1 (fun hng K hK => have hc := nt_t hng; wp_value (cmp_eq (m := k) (n := 44) rfl (kn.2.1.trans (gv_t hc)) rfl) (hK _ _ (gv_t hc).symm (Below.refl _ _))) (fun h0 => (gv_f (nt_f h0)).symm)),
      (fun QQ aa ww hS fr kn => sg0 rfl (fun K hK => wp_value (exec_pickOr rfl kn.1 rfl (fun hx => kn.2.1.trans (gv_t (nt_t hx)))) (hK _ _ rfl (Below.refl _ _)))),
      (fun QQ aa ww hS fr kn => sg0 rfl (fun K hK => wp_value (exec_assign rfl kn.1) (hK _ _ rfl (Below.refl _ _)))),
      trivial⟩ ?_
  intro vs u2 hB2 kn
  have e2 : vs 2 = .bool ((isEx k) || (decide (k = 44))) := kn 6 (by decide)
  clear kn
  simp only [putAll, Act.put, List.setIfInBounds_toArray, List.set_cons_zero, List.set_cons_succ, e2]
  clear e2
  go_wp2_with fail
  go_ret
  exact ⟨by rw [isHd_d]; rfl, hB2⟩
set_option maxHeartbeats 4000000 in
theorem rIsExt_run (k : Int) (w : World) : Calls Try.prog 47 #[.int .i64 k] w fun e w' => e = .returned (.bool (isHd k)) ∧ Below w.heap.size w w' := by
  go_enter Try.func47, Try.ntmps47
  go_upto_region 1 with fail
  refine wp_plain_steps (Below w.heap.size w) (fun v v' => Below v.heap.size v v') (fun j vv _ => vv = ([.int .i64 k, .bool (decide (k = 0)), .bool (decide (k = 0)), gv (!(decide (k = 0))) (.int .i64 k), gv (!(decide (k = 0))) (.bool (decide (k = 43))), .bool ((decide (k = 0)) || (decide (k = 43))), .bool ((decide (k = 0)) || (decide (k = 43))), gv (!((decide (k = 0)) || (decide (k = 43)))) (.int .i64 k), gv (!((decide (k = 0)) || (decide (k = 43)))) (.bool (decide (k = 44))), .bool (((decide (k = 0)) || (decide (k = 43))) || (decide (k = 44))), .bool (((decide (k = 0)) || (decide (k = 43))) || (decide (k = 44))), gv (!(((decide (k = 0)) || (decide (k = 43))) || (decide (k = 44)))) (.int .i64 k), gv (!(((decide (k = 0)) || (decide (k = 43))) || (decide (k = 44)))) (.bool (decide (k = 60))), .bool ((((decide (k = 0)) || (decide (k = 43))) || (decide (k = 44))) || (decide (k = 60))), .bool ((((decide (k = 0)) || (decide (k = 43))) || (decide (k = 44))) || (decide (k = 60)))] : List Value).getD j undef)
      [3, 4, 5, 6, 7, 8, 9, 10, 11, 12, 13, 14, 15, 16, 2]
      [(0, .int .i64 k)] [] 0
      [[], [0], [1], [2], [2, 3], [2, 4], [5], [6], [6, 7], [6, 8], [9], [10], [10, 11], [10, 12], [13]]
      (by kernel_rfl) ⟨rfl, trivial⟩ trivial (Below.refl _ _) (fun v v' h hb => h.trans (hb.mono h.size)) (fun _ _ _ _ h _ => h)
      ⟨
      (fun QQ aa ww hS fr kn => sg0 rfl (fun K hK => wp_value (exec_move rfl fr.1) (hK _ _ rfl (Below.refl _ _)))),
      (fun QQ aa ww hS fr kn => sg0 rfl (fun K hK => wp_value (cmp_eq (m := k) (n := 0) rfl kn.1 rfl) (hK _ _ rfl (Below.refl _ _)))),
      (fun QQ aa ww hS fr kn => sg0 rfl (fun K hK => wp_value (exec_move rfl kn.1) (hK _ _ rfl (Below.refl _ _)))),
      (fun QQ aa ww hS fr kn => sgF rfl kn.1 (fun hng K hK => have hc := nt_t hng; wp_value (exec_move rfl fr.1) (hK _ _ (gv_t hc).symm (Below.refl _ _))) (fun h0 => (gv_f (nt_f h0)).symm)),
      (fun QQ aa ww hS fr kn => sgF rfl kn.1 (fun hng K hK => have hc := nt_t hng; wp_value (cmp_eq (m := k) (n := 43) rfl (kn.2.1.trans (gv_t hc)) rfl) (hK _ _ (gv_t hc).symm (Below.refl _ _))) (fun h0 => (gv_f (nt_f h0)).symm)),
      (fun QQ aa ww hS fr kn => sg0 rfl (fun K hK => wp_value (exec_pickOr rfl kn.1 rfl (fun hx => kn.2.1.trans (gv_t (nt_t hx)))) (hK _ _ rfl (Below.refl _ _)))),
      (fun QQ aa ww hS fr kn => sg0 rfl (fun K hK => wp_value (exec_move rfl kn.1) (hK _ _ rfl (Below.refl _ _)))),
      (fun QQ aa ww hS fr kn => sgF rfl kn.1 (fun hng K hK => have hc := nt_t hng; wp_value (exec_move rfl fr.1) (hK _ _ (gv_t hc).symm (Below.refl _ _))) (fun h0 => (gv_f (nt_f h0)).symm)),
      (fun QQ aa ww hS fr kn => sgF rfl kn.1 (fun hng K hK => have hc := nt_t hng; wp_value (cmp_eq (m := k) (n := 44) rfl (kn.2.1.trans (gv_t hc)) rfl) (hK _ _ (gv_t hc).symm (Below.refl _ _))) (fun h0 => (gv_f (nt_f h0)).symm)),
      (fun QQ aa ww hS fr kn => sg0 rfl (fun K hK => wp_value (exec_pickOr rfl kn.1 rfl (fun hx => kn.2.1.trans (gv_t (nt_t hx)))) (hK _ _ rfl (Below.refl _ _)))),
      (fun QQ aa ww hS fr kn => sg0 rfl (fun K hK => wp_value (exec_move rfl kn.1) (hK _ _ rfl (Below.refl _ _)))),
      (fun QQ aa ww hS fr kn => sgF rfl kn.1 (fun hng K hK => have hc := nt_t hng; wp_value (exec_move rfl fr.1) (hK _ _ (gv_t hc).symm (Below.refl _ _))) (fun h0 => (gv_f (nt_f h0)).symm)),
      (fun QQ aa ww hS fr kn => sgF rfl kn.1 (fun hng K hK => have hc := nt_t hng; wp_value (cmp_eq (m := k) (n := 60) rfl (kn.2.1.trans (gv_t hc)) rfl) (hK _ _ (gv_t hc).symm (Below.refl _ _))) (fun h0 => (gv_f (nt_f h0)).symm)),
      (fun QQ aa ww hS fr kn => sg0 rfl (fun K hK => wp_value (exec_pickOr rfl kn.1 rfl (fun hx => kn.2.1.trans (gv_t (nt_t hx)))) (hK _ _ rfl (Below.refl _ _)))),
      (fun QQ aa ww hS fr kn => sg0 rfl (fun K hK => wp_value (exec_assign rfl kn.1) (hK _ _ rfl (Below.refl _ _)))),
      trivial⟩ ?_
  intro vs u2 hB2 kn
  have e2 : vs 2 = .bool ((((decide (k = 0)) || (decide (k = 43))) || (decide (k = 44))) || (decide (k = 60))) := kn 14 (by decide)
  clear kn
  simp only [putAll, Act.put, List.setIfInBounds_toArray, List.set_cons_zero, List.set_cons_succ, e2]
  clear e2
  go_wp2_with fail
  go_ret
  exact ⟨by rw [isHd_e]; rfl, hB2⟩
set_option maxHeartbeats 4000000 in
theorem mayStand_run (k : Int) (i : Nat) (w : World) : Calls Try.prog 65 #[.int .i64 k, .int .i64 (i : Int)] w fun e w' => e = .returned (.bool (mayB k i)) ∧ Below w.heap.size w w' := by
  go_enter Try.func65, Try.ntmps65
  go_upto_region 1 with fail
  refine wp_plain_steps (Below w.heap.size w) (fun v v' => Below v.heap.size v v') (fun j vv _ => vv = ([.int .i64 (i : Int), .bool (decide ((i : Int) < 4)), .bool (decide ((i : Int) < 4)), gv (decide ((i : Int) < 4)) (.int .i64 k), gv (decide ((i : Int) < 4)) (.bool (!decide (k = 0))), gv (decide ((i : Int) < 4)) (.bool (!decide (k = 0))), gv ((decide ((i : Int) < 4)) && (!(!decide (k = 0)))) (.int .i64 (i : Int)), gv ((decide ((i : Int) < 4)) && (!(!decide (k = 0)))) (.bool (decide ((i : Int) = 0))), gv (decide ((i : Int) < 4)) (.bool ((!decide (k = 0)) || (decide ((i : Int) = 0)))), .bool ((decide ((i : Int) < 4)) && ((!decide (k = 0)) || (decide ((i : Int) = 0)))), .bool ((decide ((i : Int) < 4)) && ((!decide (k = 0)) || (decide ((i : Int) = 0))))] : List Value).getD j undef)
      [5, 6, 7, 8, 9, 10, 11, 12, 13, 14, 4]
      [(0, .int .i64 k), (1, .int .i64 (i : Int))] [] 0
      [[], [0], [1], [2], [2, 3], [2, 4], [5], [5, 6], [2, 5, 7], [2, 8], [9]]
      (by kernel_rfl) ⟨rfl, rfl, trivial⟩ trivial (Below.refl _ _) (fun v v' h hb => h.trans (hb.mono h.size)) (fun _ _ _ _ h _ => h)
      ⟨
      (fun QQ aa ww hS fr kn => sg0 rfl (fun K hK => wp_value (exec_move rfl fr.2.1) (hK _ _ rfl (Below.refl _ _)))),
      (fun QQ aa ww hS fr kn => sg0 rfl (fun K hK => wp_value (cmp_lt (m := (i : Int)) (n := 4) rfl kn.1 rfl) (hK _ _ rfl (Below.refl _ _)))),
      (fun QQ aa ww hS fr kn => sg0 rfl (fun K hK => wp_value (exec_move rfl kn.1) (hK _ _ rfl (Below.refl _ _)))),
      (fun QQ aa ww hS fr kn => sgT rfl kn.1 (fun hc K hK => wp_value (exec_move rfl fr.1) (hK _ _ (gv_t hc).symm (Below.refl _ _))) (fun h0 => (gv_f h0).symm)),
      (fun QQ aa ww hS fr kn => sgT rfl kn.1 (fun hc K hK => wp_value (cmp_ne (m := k) (n := 0) rfl (kn.2.1.trans (gv_t hc)) rfl) (hK _ _ (gv_t hc).symm (Below.refl _ _))) (fun h0 => (gv_f h0).symm)),
      (fun QQ aa ww hS fr kn => sgT rfl kn.1 (fun hc K hK => wp_value (exec_move rfl (kn.2.1.trans (gv_t hc))) (hK _ _ (gv_t hc).symm (Below.refl _ _))) (fun h0 => (gv_f h0).symm)),
      (fun QQ aa ww hS fr kn => sgTF rfl kn.1 (fun hc K hK => wp_value (exec_move rfl fr.2.1) (hK _ _ (gv_t hc).symm (Below.refl _ _))) (fun h0 => (gv_f h0).symm)),
      (fun QQ aa ww hS fr kn => sgTF rfl kn.1 (fun hc K hK => wp_value (cmp_eq (m := (i : Int)) (n := 0) rfl (kn.2.1.trans (gv_t hc)) rfl) (hK _ _ (gv_t hc).symm (Below.refl _ _))) (fun h0 => (gv_f h0).symm)),
      (fun QQ aa ww hS fr kn => sgT rfl kn.1 (fun hc K hK => wp_value (exec_pickOr rfl (kn.2.1.trans (gv_t hc)) rfl (fun hx => kn.2.2.1.trans (gv_t (an_t hc (nt_t hx))))) (hK _ _ (gv_t hc).symm (Below.refl _ _))) (fun h0 => (gv_f h0).symm)),
      (fun QQ aa ww hS fr kn => sg0 rfl (fun K hK => wp_value (exec_pickAnd rfl kn.1 (fun hx => kn.2.1.trans (gv_t hx)) rfl) (hK _ _ rfl (Below.refl _ _)))),
      (fun QQ aa ww hS fr kn => sg0 rfl (fun K hK => wp_value (exec_assign rfl kn.1) (hK _ _ rfl (Below.refl _ _)))),
      trivial⟩ ?_
  intro vs u2 hB2 kn
  have e4 : vs 4 = .bool ((decide ((i : Int) < 4)) && ((!decide (k = 0)) || (decide ((i : Int) = 0)))) := kn 10 (by decide)
  clear kn
  simp only [putAll, Act.put, List.setIfInBounds_toArray, List.set_cons_zero, List.set_cons_succ, e4]
  clear e4
  go_wp2_with fail
  go_ret
  exact ⟨by rw [mayB_d]; rfl, hB2⟩
theorem en_isHeader (args : Array Value) (w : World) : (callFunc 52 args).run Try.prog w = .ok (.enter 52 args) w := by kernel_rfl
theorem en_rIsExt (args : Array Value) (w : World) : (callFunc 47 args).run Try.prog w = .ok (.enter 47 args) w := by kernel_rfl
theorem en_mayStand (args : Array Value) (w : World) : (callFunc 65 args).run Try.prog w = .ok (.enter 65 args) w := by kernel_rfl
end Go.Proofs.Ythnlfjkpiohooaa
/-
  Own text. Extension headers are compared; slices.Equal of them.
-/
namespace Go.Proofs.Ythnlfjkpiohooaa
open Go.RowKit Go.Proofs
set_option maxRecDepth 100000
def eqEx (x y : Ex) : Bool := decide (x.kind = y.kind) && decide (x.body = y.body)
theorem eqEx_iff {x y : Ex} : eqEx x y = true ↔ x = y := by
  obtain ⟨k, b⟩ := x
  obtain ⟨k', b'⟩ := y
  simp [eqEx]
theorem fieldsE : (Try.prog.fieldsOf 60).toList.map (fun f => (f.name, f.type, f.offset)) = [("Kind", 3, 0), ("Body", 9, 1)] := by kernel_rfl
theorem stoodE : Try.prog.stoodInHeld 60 = false := by kernel_rfl
theorem eqgE : Try.prog.eqGuardType Try.prog.depth 60 = false := by kernel_rfl
theorem partE0 (x : Ex) (w : World) : (part 3 (SC 2 (exV x)) 0).run Try.prog w = .ok (.int .i64 x.kind) w := by kernel_rfl
theorem partE1 (x : Ex) (w : World) : (part 9 (SC 2 (exV x)) 1).run Try.prog w = .ok (.string x.body) w := by kernel_rfl
theorem equal_ex (x y : Ex) (w : World) : (Op.equalIn 10000 60 (.agg (SC 2 (exV x))) (.agg (SC 2 (exV y)))).run Try.prog w = .ok (eqEx x y) w := by
  rw [run_equalIn_struct w 9999 60 _ _ Try.underlying60 stoodE]
  have hf := fieldsE
  generalize (Try.prog.fieldsOf 60).toList = fs at hf
  obtain ⟨f0, f1, rfl⟩ : ∃ f0 f1, fs = [f0, f1] := by
    have hl : fs.length = 2 := by have := congrArg List.length hf; simpa using this
    cases fs with
    | nil => simp at hl
    | cons f0 fs =>
      cases fs with
      | nil => simp at hl
      | cons f1 fs =>
        cases fs with
        | nil => exact ⟨f0, f1, rfl⟩
        | cons f2 fs => simp at hl
  simp only [List.map_cons, List.map_nil, List.cons.injEq, Prod.mk.injEq, and_true] at hf
  obtain ⟨⟨n0, t0, o0⟩, n1, t1, o1⟩ := hf
  have e1 : (Op.equalIn 9999 3 (.int .i64 x.kind) (.int .i64 y.kind)).run Try.prog w = .ok (x.kind == y.kind) w := run_equalIn_int w 9998 3 .i64 .i64 x.kind y.kind Try.underlying3
  have e2 : (Op.equalIn 9999 9 (.string x.body) (.string y.body)).run Try.prog w = .ok (x.body.toList == y.body.toList) w := run_equalIn_string w 9998 9 x.body y.body Try.underlying9
  simp only [Op.eqFields, n0, t0, o0, n1, t1, o1, ne_eq, String.reduceEq, not_false_eq_true, if_true, Sem.run_bind, partE0, Result.andThen_ok, e1]
  have e3 : (x.body.toList == y.body.toList) = decide (x.body = y.body) := by
    by_cases hb : x.body = y.body
    · rw [hb]; simp
    · rw [decide_eq_false hb, beq_eq_false_iff_ne]
      intro h
      rw [ByteArray.toList_eq, ByteArray.toList_eq] at h
      exact hb (ByteArray.ext (Array.toList_inj.1 h))
  unfold eqEx
  by_cases hv : x.kind = y.kind
  · simp only [hv, beq_self_eq_true, Bool.not_true, Bool.false_eq_true, if_false, Sem.run_bind, partE1, Result.andThen_ok, e2, e3]
    by_cases hb : x.body = y.body
    · simp [hb]
    · simp [hb]
  · have e4 : (x.kind == y.kind) = false := by simpa using hv
    simp [hv, e4]
section
variable {a : Act} {o : Oper} {w : World} {x y : Operand} {t : TypeId}
theorem exec_neEx (ho : o.op = .binOp .neq 60 x y t) {p q : Ex} (hx : a.eval x = .agg (SC 2 (exV p))) (hy : a.eval y = .agg (SC 2 (exV q))) : (execOp a.eval o).run Try.prog w = .ok (.value (.bool (!eqEx p q))) w := by
  unfold execOp
  simp only [ho, hx, hy, Sem.run_bind, run_eqGuard_agg w .neq 60 x y _ _ eqgE, Result.andThen_ok, run_neq_struct, equal_ex p q w, Sem.run_pure]
end
theorem ExAt.at {w w' : World} {v : Value} {l : List Ex} (h : ExAt w v l) (hB : Below w.heap.size w w') {j : Nat} {x : Ex} (hj : l[j]? = some x) : ∃ ad cap, v = .slice (some ad) l.length cap ∧ w'.cell? (ad.add (2 * j)) = some (.int .i64 x.kind) ∧ w'.cell? ((ad.add (2 * j)).add 1) = some (.string x.body) := by
  obtain ⟨a, cap, rfl, hc⟩ := h.kept hB
  obtain ⟨ad, rfl, _, h1, h2⟩ := hc j x hj
  exact ⟨ad, cap, rfl, h1, by rw [Addr.add_add]; exact h2⟩
theorem ExAt.sl {w w' : World} {a : Option Addr} {n c : Nat} {l : List Ex} (h : ExAt w (.slice a n c) l) (hB : Below w.heap.size w w') {j : Nat} {x : Ex} (hj : l[j]? = some x) : ∃ ad, a = some ad ∧ w'.cell? (ad.add (2 * j)) = some (.int .i64 x.kind) ∧ w'.cell? ((ad.add (2 * j)).add 1) = some (.string x.body) := by
  obtain ⟨a', cap, e, hc⟩ := h.kept hB
  obtain ⟨ad, e2, _, h1, h2⟩ := hc j x hj
  injection e with e
  exact ⟨ad, e.trans e2, h1, by rw [Addr.add_add]; exact h2⟩
/-- Two lists are the same from a place on. -/
theorem exEq_step {l m : List Ex} {x y : Ex} {i : Nat} (hx : l[i]? = some x) (hy : m[i]? = some y) : exEq (l.drop i) (m.drop i) = (eqEx x y && exEq (l.drop (i + 1)) (m.drop (i + 1))) := by
  have h1 := (List.getElem?_eq_some_iff.1 hx)
  have h2 := (List.getElem?_eq_some_iff.1 hy)
  rw [List.drop_eq_getElem_cons h1.1, List.drop_eq_getElem_cons h2.1, h1.2, h2.2]
  rfl
theorem exEq_len {l m : List Ex} (h : l.length ≠ m.length) : exEq l m = false := by
  cases e : exEq l m
  · rfl
  · rw [exEq_iff] at e
    subst e
    exact absurd rfl h
end Go.Proofs.Ythnlfjkpiohooaa
