/-
  Own text. What was read may be, and is built anew as the very bytes that were read.
-/
import Derived.Test.YtdlepeogmjmleaaJ4
import Derived.Test.YtdlepeogmjmleaaJ8
import Derived.Test.YtdlepeogmjmleaaJ7
import Derived.Deep.MidRow
namespace Go.Proofs.Ytdlepeogmjmleaa
open Go.RowKit Go.Proofs
set_option maxRecDepth 100000
theorem txt_n (b : ByteArray) (j : Nat) : ((txt b j).toNat : Int) = txt b j ∧ (txt b j).toNat < 256 := by
  have := txt_b b j
  omega
theorem byts_fr (T : ByteArray) : Byts 16 (frB T) := frB_b T
theorem exsOk_app : ∀ {l m : List Ex} {i : Nat}, exsOk l i = true → exsOk m (i + l.length) = true → exsOk (l ++ m) i = true
  | [], _, _, _, h => h
  | x :: l, m, i, h1, h2 => by
    rw [List.cons_append]
    unfold exsOk at h1 ⊢
    rw [Bool.and_eq_true] at h1 ⊢
    exact ⟨h1.1, exsOk_app h1.2 (by rw [List.length_cons] at h2; rw [show i + 1 + l.length = i + (l.length + 1) by omega]; exact h2)⟩
theorem getN_lt2 (b : ByteArray) (a : Nat) : getN (txt b) a 2 < 65536 := getN_lt (fun j => txt_b b j) a 2
theorem getN_lt4 (b : ByteArray) (a : Nat) : getN (txt b) a 4 < 4294967296 := getN_lt (fun j => txt_b b j) a 4
/-- What the reader of headers tells. -/
theorem rdEx_says {p P : Pk} (hpc : p.cut = false) (hpo : p.off = 0) (hpm : p.more = false) (hpi : p.id = 0) : ∀ (n : Nat) (acc : List Ex) (k : Int) (rest : ByteArray), 0 ≤ k → k ≤ 255 → rdEx p n acc k rest = .ok P →
    ∃ l, P = { p with exts := acc ++ l, cut := P.cut, off := P.off, more := P.more, id := P.id, proto := P.proto, pay := P.pay } ∧ k = nextK P l ∧ rest = exB P l ++ P.pay ∧ exsOk l acc.length = true ∧ isHd P.proto = false ∧ (0 ≤ P.proto ∧ P.proto ≤ 255) ∧ (0 ≤ P.off ∧ P.off ≤ 65528) ∧ P.off % 8 = 0 ∧ (0 ≤ P.id ∧ P.id ≤ 4294967295) ∧ (P.cut = true ∨ (P.id = 0 ∧ P.off = 0 ∧ P.more = false))
  | 0, _, _, _, _, _, h => by unfold rdEx at h; cases h
  | n + 1, acc, k, rest, hk0, hk1, h => by
    unfold rdEx at h
    by_cases c1 : isHd k = false
    · rw [if_pos c1] at h
      injection h with h
      subst h
      refine ⟨[], ?_, ?_, ?_, rfl, c1, ⟨hk0, hk1⟩, ?_, ?_, ?_, .inr ⟨hpi, hpo, hpm⟩⟩
      · simp
      · unfold nextK tailK
        rw [if_neg (by rw [hpc]; decide)]
      · unfold exB
        rw [if_neg (by rw [hpc]; decide), empty_app]
      · show 0 ≤ p.off ∧ p.off ≤ 65528
        omega
      · show p.off % 8 = 0
        omega
      · show 0 ≤ p.id ∧ p.id ≤ 4294967295
        omega
    · rw [if_neg c1] at h
      by_cases c2 : k ≠ 44 ∧ mayB k acc.length = false
      · rw [if_pos c2] at h; cases h
      · rw [if_neg c2] at h
        by_cases c3 : rest.size < 8
        · rw [if_pos c3] at h; cases h
        · rw [if_neg c3] at h
          by_cases c4 : k = 44
          · rw [if_pos c4] at h
            by_cases c5 : txt rest 1 ≠ 0 ∨ getN (txt rest) 2 2 % 8 / 2 ≠ 0 ∨ isHd (txt rest 0) = true
            · rw [if_pos c5] at h; cases h
            · rw [if_neg c5] at h
              injection h with h
              have d1 : txt rest 1 = 0 := Classical.byContradiction (fun e => c5 (.inl e))
              have d2 : getN (txt rest) 2 2 % 8 / 2 = 0 := Classical.byContradiction (fun e => c5 (.inr (.inl e)))
              have d3 : isHd (txt rest 0) = false := by
                cases e : isHd (txt rest 0)
                · rfl
                · exact absurd (.inr (.inr e)) c5
              have b0 := txt_b rest 0
              have g2 := getN_lt2 rest 2
              have g4 := getN_lt4 rest 4
              have e0 : P.proto = txt rest 0 := by rw [← h]
              have e1 : P.off = ((getN (txt rest) 2 2 / 8 * 8 : Nat) : Int) := by rw [← h]
              have e2 : P.more = decide (getN (txt rest) 2 2 % 2 = 1) := by rw [← h]
              have e3 : P.id = (getN (txt rest) 4 4 : Int) := by rw [← h]
              have e4 : P.pay = rest.extract 8 rest.size := by rw [← h]
              have e5 : P.cut = true := by rw [← h]
              refine ⟨[], by rw [← h]; simp, ?_, ?_, rfl, by rw [e0]; exact d3, by rw [e0]; omega, by rw [e1]; omega, by rw [e1]; omega, by rw [e3]; omega, .inl e5⟩
              · unfold nextK tailK
                rw [if_pos e5, c4]
              · unfold exB cuB
                rw [if_pos e5, e0, e1, e3, e4, put_at rest (by omega)]
                have q1 : putT 0 1 = rest.extract 1 2 := by
                  have := put_at rest (a := 1) (by omega)
                  rw [d1] at this
                  exact this
                have q2 : ((getN (txt rest) 2 2 / 8 * 8 : Nat) : Int).toNat + bN P.more 1 = getN (txt rest) 2 2 := by
                  rw [e2, Int.toNat_natCast]
                  unfold bN
                  by_cases e : getN (txt rest) 2 2 % 2 = 1
                  · rw [if_pos (by simp [e])]
                    omega
                  · rw [if_neg (by simp [e])]
                    omega
                rw [q1, q2, Int.toNat_natCast, put_getN rest (by omega), put_getN rest (by omega), cutP_join rest (by decide) (by decide) (by omega), cutP_join rest (by decide) (by decide) (by omega), cutP_join rest (by decide) (by decide) (by omega), cutP_join rest (by omega) (by omega) (Nat.le_refl _), cutP_all]
          · rw [if_neg c4] at h
            by_cases c5 : rest.size < ((txt rest 1).toNat + 1) * 8
            · rw [if_pos c5] at h; cases h
            · rw [if_neg c5] at h
              have b0 := txt_b rest 0
              have n1 := txt_n rest 1
              obtain ⟨l, hP, hk, hr, hx, hrest⟩ := rdEx_says hpc hpo hpm hpi n _ _ _ b0.1 (by omega) h
              have hkind : k = 0 ∨ k = 43 ∨ k = 60 := by
                have := c1
                rw [Bool.not_eq_false, isHd_iff] at this
                omega
              have hm : mayB k acc.length = true := by
                cases e : mayB k acc.length
                · exact absurd ⟨c4, e⟩ c2
                · rfl
              have zb : (rest.extract 2 (((txt rest 1).toNat + 1) * 8)).size = ((txt rest 1).toNat + 1) * 8 - 2 := cutP_size _ _ _ (by omega)
              refine ⟨⟨k, rest.extract 2 (((txt rest 1).toNat + 1) * 8)⟩ :: l, ?_, rfl, ?_, ?_, hrest⟩
              · rw [List.append_assoc, List.singleton_append] at hP
                exact hP
              · show rest = putT (nextK P l).toNat 1 ++ putT ((2 + (rest.extract 2 (((txt rest 1).toNat + 1) * 8)).size) / 8 - 1) 1 ++ rest.extract 2 (((txt rest 1).toNat + 1) * 8) ++ exB P l ++ P.pay
                have e1 : (2 + (rest.extract 2 (((txt rest 1).toNat + 1) * 8)).size) / 8 - 1 = (txt rest 1).toNat := by rw [zb]; omega
                rw [e1, ← hk, app_assoc _ (exB P l), ← hr, put_at rest (by omega), put_at rest (by omega), cutP_join rest (by decide) (by decide) (by omega), cutP_join rest (by omega) (by omega) (by omega), cutP_join rest (by omega) (by omega) (Nat.le_refl _), cutP_all]
              · unfold exsOk
                rw [Bool.and_eq_true]
                rw [List.length_append] at hx
                refine ⟨exOk_iff.2 ⟨hkind, mayB_iff.1 hm, ?_, ?_⟩, hx⟩
                · show (rest.extract 2 _).size % 8 = 6
                  rw [zb]
                  omega
                · show (rest.extract 2 _).size ≤ 2046
                  rw [zb]
                  omega
/-- What was read may be; its bytes are the first ones. -/
theorem bld_rd4 {b : ByteArray} {P : Pk} (hb : 20 ≤ b.size) (hv : (txt b 0).toNat / 16 = 4) (h : rd4 b = .ok P) : PkOk P ∧ rgtP P = true ∧ fitP P = true ∧ headP P + P.pay.size ≤ b.size ∧ fourB P = b.extract 0 (headP P + P.pay.size) ∧ P.sv = false := by
  unfold rd4 at h
  simp only at h
  obtain ⟨h0, hh0⟩ : ∃ h0, (txt b 0).toNat % 16 * 4 = h0 := ⟨_, rfl⟩
  obtain ⟨sz, hsz⟩ : ∃ sz, getN (txt b) 2 2 = sz := ⟨_, rfl⟩
  rw [hh0, hsz] at h
  by_cases c1 : h0 < 20 ∨ sz < h0 ∨ b.size < sz
  · rw [if_pos c1] at h; cases h
  · rw [if_neg c1] at h
    by_cases c2 : sumT (b.extract 0 10 ++ b.extract 12 h0) ≠ (getN (txt b) 10 2 : Int)
    · rw [if_pos c2] at h; cases h
    · rw [if_neg c2] at h
      by_cases c3 : 32768 ≤ getN (txt b) 6 2
      · rw [if_pos c3] at h; cases h
      · rw [if_neg c3] at h
        injection h with h
        have c2' : sumT (b.extract 0 10 ++ b.extract 12 h0) = (getN (txt b) 10 2 : Int) := Classical.byContradiction c2
        have n0 := txt_n b 0
        have n1 := txt_b b 1
        have n8 := txt_b b 8
        have n9 := txt_b b 9
        have g4 := getN_lt2 b 4
        have gs := getN_lt2 b 2
        have e1 : P.sv = false := by rw [← h]
        have e2 : P.dv = false := by rw [← h]
        have e3 : P.sb = frB (b.extract 12 16) := by rw [← h]
        have e4 : P.db = frB (b.extract 16 20) := by rw [← h]
        have e5 : P.proto = txt b 9 := by rw [← h]
        have e6 : P.hop = txt b 8 := by rw [← h]
        have e7 : P.cls = txt b 1 := by rw [← h]
        have e8 : P.id = (getN (txt b) 4 2 : Int) := by rw [← h]
        have e9 : P.off = ((getN (txt b) 6 2 % 8192 * 8 : Nat) : Int) := by rw [← h]
        have ea : P.more = decide (getN (txt b) 6 2 / 8192 % 2 = 1) := by rw [← h]
        have eb : P.still = decide (getN (txt b) 6 2 / 16384 = 1) := by rw [← h]
        have ec : P.opts = b.extract 20 h0 := by rw [← h]
        have ed : P.flow = 0 := by rw [← h]
        have ee : P.exts = [] := by rw [← h]
        have ef : P.cut = false := by rw [← h]
        have eg : P.pay = b.extract h0 sz := by rw [← h]
        clear h
        have z1 : (b.extract 12 16).size = 4 := cutP_size _ _ _ (by omega)
        have z2 : (b.extract 16 20).size = 4 := cutP_size _ _ _ (by omega)
        have z3 : P.opts.size = h0 - 20 := by rw [ec]; exact cutP_size _ _ _ (by omega)
        have z4 : P.pay.size = sz - h0 := by rw [eg]; exact cutP_size _ _ _ (by omega)
        have hH : headP P = h0 := by unfold headP; rw [if_neg (by rw [e1]; decide), z3]; omega
        have hT : headP P + P.pay.size = sz := by rw [hH, z4]; omega
        have v1 : validF P.sv P.sb = true := by rw [e1, e3]; exact valid_fr z1
        have v2 : validF P.dv P.db = true := by rw [e2, e4]; exact valid_fr z2
        have r : rgtP P = true := by
          refine rgtP_iff.2 ⟨v1, v2, by rw [e1, e2], by rw [e5]; omega, by rw [e6]; omega, by rw [e7]; omega, by rw [e9]; omega, by rw [e9]; omega, ?_⟩
          rw [if_neg (by rw [e1]; decide)]
          exact rgt4_iff.2 ⟨by rw [e8]; omega, by rw [z3]; omega, by rw [z3]; omega, ed, ee, ef⟩
        have f : fitP P = true := by
          unfold fitP
          rw [if_neg (by rw [e1]; decide), hT]
          simp
          omega
        have qa : a4 P = b.extract 0 10 := by
          unfold a4
          have k0 : 64 + headP P / 4 = (txt b 0).toNat := by rw [hH]; omega
          have k1 : headP P + P.pay.size = getN (txt b) 2 2 := by rw [hT, hsz]
          have k2 : P.off.toNat / 8 + bN P.more 8192 + bN P.still 16384 = getN (txt b) 6 2 := by
            rw [e9, ea, eb, Int.toNat_natCast]
            generalize getN (txt b) 6 2 = n at c3
            have hb1 : bN (decide (n / 8192 % 2 = 1)) 8192 = n / 8192 % 2 * 8192 := by
              unfold bN
              by_cases e : n / 8192 % 2 = 1
              · rw [if_pos (by simp [e])]; omega
              · rw [if_neg (by simp [e])]; omega
            have hb2 : bN (decide (n / 16384 = 1)) 16384 = n / 16384 * 16384 := by
              unfold bN
              by_cases e : n / 16384 = 1
              · rw [if_pos (by simp [e])]; omega
              · rw [if_neg (by simp [e])]; omega
            rw [hb1, hb2]
            omega
          rw [k0, k1, k2, e7, e8, e6, e5, Int.toNat_natCast, put_at b (by omega), put_at b (by omega), put_getN b (by omega), put_getN b (by omega), put_getN b (by omega), put_at b (by omega), put_at b (by omega)]
          rw [cutP_join b (by decide) (by decide) (by omega), cutP_join b (by decide) (by decide) (by omega), cutP_join b (by decide) (by decide) (by omega), cutP_join b (by decide) (by decide) (by omega), cutP_join b (by decide) (by decide) (by omega), cutP_join b (by decide) (by decide) (by omega)]
        have qb : b4 P = b.extract 12 h0 := by
          unfold b4
          rw [e1, e2, e3, e4, ec, byt_fr (v := false) (by simpa using z1), byt_fr (v := false) (by simpa using z2), cutP_join b (by decide) (by decide) (by omega), cutP_join b (by decide) (by omega) (by omega)]
        refine ⟨⟨by rw [e3]; exact byts_fr _, by rw [e4]; exact byts_fr _⟩, r, f, by omega, ?_, e1⟩
        rw [hT]
        unfold fourB
        rw [qa, qb, c2', Int.toNat_natCast, put_getN b (by omega), eg, cutP_join b (by decide) (by decide) (by omega), cutP_join b (by decide) (by omega) (by omega), cutP_join b (by omega) (by omega) (by omega)]
set_option maxHeartbeats 1600000 in
theorem bld_rd {b : ByteArray} {P : Pk} (h : rdP b = .ok P) : PkOk P ∧ rgtP P = true ∧ fitP P = true ∧ sizeP P ≤ b.size ∧ bldT P = b.extract 0 (sizeP P) := by
  unfold rdP at h
  by_cases c0 : b.size = 0
  · rw [if_pos c0] at h; cases h
  rw [if_neg c0] at h
  by_cases c1 : (txt b 0).toNat / 16 ≠ 4 ∧ (txt b 0).toNat / 16 ≠ 6
  · rw [if_pos c1] at h; cases h
  rw [if_neg c1] at h
  by_cases c2 : b.size < 20 ∨ ((txt b 0).toNat / 16 = 6 ∧ b.size < 40)
  · rw [if_pos c2] at h; cases h
  rw [if_neg c2] at h
  by_cases c3 : (txt b 0).toNat / 16 = 4
  · rw [if_pos c3] at h
    obtain ⟨hO, r, f, hs, hB, h4⟩ := bld_rd4 (by omega) c3 h
    refine ⟨hO, r, f, ?_, ?_⟩
    · unfold sizeP
      rw [if_pos r]
      exact hs
    · unfold bldT sizeP
      rw [r, f, if_pos (by decide), if_pos rfl, if_neg (by rw [h4]; decide)]
      exact hB
  rw [if_neg c3] at h
  by_cases c4 : b.size < 40 + getN (txt b) 4 2
  · rw [if_pos c4] at h; cases h
  rw [if_neg c4] at h
  have n6 := txt_b b 6
  have n7 := txt_b b 7
  obtain ⟨sz, hsz⟩ : ∃ sz, getN (txt b) 4 2 = sz := ⟨_, rfl⟩
  have gs := getN_lt2 b 4
  have g0 := getN_lt4 b 0
  rw [hsz] at h c4 gs
  obtain ⟨l, hP, hk, hr, hx, hpr, hpb, hof, ho8, hid, hcu⟩ := rdEx_says rfl rfl rfl rfl 5 [] _ _ n6.1 (by omega) h
  rw [List.nil_append] at hP
  have e1 : P.sv = true := by rw [hP]; rfl
  have e2 : P.dv = true := by rw [hP]; rfl
  have e3 : P.sb = frB (b.extract 8 24) := by rw [hP]; rfl
  have e4 : P.db = frB (b.extract 24 40) := by rw [hP]; rfl
  have e6 : P.hop = txt b 7 := by rw [hP]; rfl
  have e7 : P.cls = ((getN (txt b) 0 4 / 1048576 % 256 : Nat) : Int) := by rw [hP]; rfl
  have eb : P.still = false := by rw [hP]; rfl
  have ec : P.opts = ByteArray.empty := by rw [hP]; rfl
  have ed : P.flow = ((getN (txt b) 0 4 % 1048576 : Nat) : Int) := by rw [hP]; rfl
  have ee : P.exts = l := by rw [hP]
  clear hP h
  have z1 : (b.extract 8 24).size = 16 := cutP_size _ _ _ (by omega)
  have z2 : (b.extract 24 40).size = 16 := cutP_size _ _ _ (by omega)
  have hz := congrArg ByteArray.size hr
  rw [cutP_size _ _ _ (by omega), ByteArray.size_append, exB_size hx] at hz
  have hH : headP P = 40 + exLen l + (if P.cut = true then 8 else 0) := by unfold headP; rw [if_pos e1, ee]
  have hT : headP P + P.pay.size = 40 + sz := by omega
  have r : rgtP P = true := by
    refine rgtP_iff.2 ⟨by rw [e1]; exact valid_six _, by rw [e2]; exact valid_six _, by rw [e1, e2], hpb, by rw [e6]; omega, by rw [e7]; omega, hof, ho8, ?_⟩
    rw [if_pos e1]
    exact rgt6_iff.2 ⟨by rw [ed]; omega, by rw [ec]; rfl, eb, by rw [ee]; exact hx, hpr, hid, hcu⟩
  have f : fitP P = true := by
    unfold fitP
    rw [if_pos e1, hT]
    simp
    omega
  have hS : sizeP P = 40 + sz := by unfold sizeP; rw [if_pos r, hT]
  refine ⟨⟨by rw [e3]; exact byts_fr _, by rw [e4]; exact byts_fr _⟩, r, f, by omega, ?_⟩
  unfold bldT
  rw [r, f, if_pos (by decide), if_pos e1, hS]
  unfold sixB hd6
  have v6 : (txt b 0).toNat / 16 = 6 := by omega
  have gh := getN_high (fun j => txt_b b j) 0 4 1 (by decide)
  have e256 : (256 : Nat) ^ (4 - 1) = 16777216 := rfl
  rw [getN_one, e256] at gh
  have k0 : 1610612736 + P.cls.toNat * 1048576 + P.flow.toNat = getN (txt b) 0 4 := by
    rw [e7, ed, Int.toNat_natCast, Int.toNat_natCast]
    generalize getN (txt b) 0 4 = n at gh g0
    omega
  have k1 : headP P + P.pay.size - 40 = getN (txt b) 4 2 := by rw [hT, hsz]; omega
  rw [k0, k1, ee, ← hk, e6, e1, e2, e3, e4, app_assoc _ (exB P l), ← hr, byt_fr (v := true) (by simpa using z1), byt_fr (v := true) (by simpa using z2)]
  rw [put_getN b (by omega), put_getN b (by omega), put_at b (by omega), put_at b (by omega)]
  simp only [Nat.reduceAdd]
  rw [cutP_join b (a := 0) (m := 4) (e := 6) (by decide) (by decide) (by omega), cutP_join b (a := 0) (m := 6) (e := 7) (by decide) (by decide) (by omega), cutP_join b (a := 0) (m := 7) (e := 8) (by decide) (by decide) (by omega), cutP_join b (a := 0) (m := 8) (e := 24) (by decide) (by decide) (by omega), cutP_join b (a := 0) (m := 24) (e := 40) (by decide) (by decide) (by omega)]
  exact cutP_join b (Nat.zero_le _) (Nat.le_add_right _ _) (by omega)
end Go.Proofs.Ytdlepeogmjmleaa
/-
  Own text. The document's num and read4: a packet of version 4 is read.
-/
namespace Go.Proofs.Ytdlepeogmjmleaa
open Go.RowKit Go.Proofs
set_option maxRecDepth 100000
theorem rnum_run (b : ByteArray) (at0 size : Nat) (w : World) (hT : b.size < 9223372036854775808) (h1 : 1 ≤ size) (h7 : size ≤ 7) (ha : at0 + size ≤ b.size) : Calls Try.prog 38 #[.string b, .int .i64 (at0 : Int), .int .i64 (size : Int)] w fun e w' => e = .returned (.int .i64 (getN (txt b) at0 size : Int)) ∧ Below w.heap.size w w' := by
  have HG : Hid (∀ ww, Calls Try.prog 61 #[.string b, .int .i64 (at0 : Int), .int .i64 (size : Int)] ww fun e w' => e = .returned (.tuple #[.int .u64 (getN (txt b) at0 size : Int), .bool true]) ∧ Below ww.heap.size ww w') := Hid.mk (fun ww => rGet_run b at0 size ww hT h1 (by omega) ha)
  have hl : getN (txt b) at0 size < 9223372036854775808 := by
    have e1 := getN_lt (fun j => txt_b b j) at0 size
    have e2 : 256 ^ size ≤ 256 ^ 7 := Nat.pow_le_pow_right (by decide) h7
    have e3 : (256 : Nat) ^ 7 = 72057594037927936 := by decide
    omega
  generalize getN (txt b) at0 size = N at *
  clear hT h1 h7 ha
  go_enter Try.func38, Try.ntmps38
  go_wp2_with (go_at_call 61; refine (HG.out _).mono ?_; rintro e u3 ⟨rfl, hB3⟩; refine Hid.out ?_)
  refine Hid.mk ?_
  go_wp2_with (refine wl_value rfl (exec_cvUI (m := N) rfl (by rfl) hl) ?_)
  go_ret
  exact ⟨rfl, hB3⟩
theorem en_rnum (args : Array Value) (w : World) : (callFunc 38 args).run Try.prog w = .ok (.enter 38 args) w := by kernel_rfl
theorem en_rFrom (args : Array Value) (w : World) : (callFunc 39 args).run Try.prog w = .ok (.enter 39 args) w := by kernel_rfl
theorem en_read4 (args : Array Value) (w : World) : (callFunc 37 args).run Try.prog w = .ok (.enter 37 args) w := by kernel_rfl
/-- How the document's reading ends. -/
def DEnd (w : World) (R : Rd) (e : Ending) (w' : World) : Prop :=
  Below w.heap.size w w' ∧ ∃ Q v x, e = .returned (.tuple #[.agg (SC 46 (pkV Q v)), .int .i64 x]) ∧ ((R = .err x ∧ Q = zeroP ∧ v = .slice none 0 0) ∨ ∃ Z, R = .ok Q ∧ x = 0 ∧ w'.ownsRow w.heap.size 36 2 v Q.exts.length (rX 2 Z Q.exts.length) ∧ (∀ j x, Q.exts[j]? = some x → ∀ f, f < 2 → Z j f = exV x f))
def phA (n : Nat) (l : List Value) (B : Nat) (j : Nat) (vv : Value) (w : World) : Prop := if j = n then ∃ gp, B ≤ gp ∧ vv = .pointer (some ⟨gp, 0, none⟩) ∧ SAt w gp 27 46 (pkV zeroP (.slice none 0 0)) else vv = l.getD j undef
theorem phA_kept {n : Nat} {l : List Value} {B j : Nat} {vv : Value} {w w' : World} (h : phA n l B j vv w) (hb : Below w.heap.size w w') : phA n l B j vv w' := by
  unfold phA at h ⊢
  split
  · rename_i e
    rw [if_pos e] at h
    obtain ⟨gp, h1, h2, h3⟩ := h
    exact ⟨gp, h1, h2, h3.kept hb⟩
  · rename_i e
    rw [if_neg e] at h
    exact h
/-- An address is stored into a packet. -/
theorem wl_stAd {ops : Array Oper} {rest : List Oper} {o : Oper} {a : Act} {w : World} {x y : Operand} {Q : Exit → Act → World → Prop} {g f : Nat} {P P' : Pk} {v : Value} {s : Bool} {b : Nat → Int} (ho : o.op = .store 24 x y) (hw : Region.wanted o (yielded ops a.tmps) = true) (hx : a.eval x = .pointer (some ⟨g, f, none⟩)) (hy : a.eval y = .agg (SC 17 (adV s b))) (hf : f + 17 ≤ 46)
    (hg : SAt w g 27 46 (pkV P v)) (hV : ∀ i, i < 46 → (if f ≤ i ∧ i < f + 17 then adV s b (i - f) else pkV P v i) = pkV P' v i)
    (h : ∀ w', SAt w' g 27 46 (pkV P' v) → Only g w w' → wpList Try.prog ops Q rest (a.put o.dst undef) w') : wpList Try.prog ops Q (o :: rest) a w := by
  refine wl_act hw ?_
  obtain ⟨h1, h2⟩ := SAt.mid hg (adV s b) f 17 hf
  exact wp_store_mid 24 x y ho g f (SC 17 (adV s b)) hx hy (by rw [SC_size]; exact SAt.there hg f 17 hf) (by rw [SC_size]; kernel_rfl) (SC_one (adV_one s b)) (h _ (h1.congr hV) h2)
theorem pk_upS (P : Pk) (v : Value) (s : Bool) (b : Nat → Int) : ∀ i, i < 46 → (if 0 ≤ i ∧ i < 0 + 17 then adV s b (i - 0) else pkV P v i) = pkV { P with sv := s, sb := b } v i := fun i _ => by
  unfold pkV
  by_cases h : i < 17
  · rw [if_pos ⟨Nat.zero_le _, by omega⟩, if_pos h]; rfl
  · rw [if_neg (by omega), if_neg h, if_neg h]; rfl
theorem pk_upD (P : Pk) (v : Value) (s : Bool) (b : Nat → Int) : ∀ i, i < 46 → (if 17 ≤ i ∧ i < 17 + 17 then adV s b (i - 17) else pkV P v i) = pkV { P with dv := s, db := b } v i := fun i _ => by
  unfold pkV
  by_cases h : i < 17
  · rw [if_neg (by omega), if_pos h, if_pos h]
  · by_cases h2 : i < 34
    · rw [if_pos (by omega), if_neg h, if_pos h2]
    · rw [if_neg (by omega), if_neg h, if_neg h2, if_neg h, if_neg h2]; rfl
def pk4d (c i o : Int) (m st : Bool) (h p : Int) (op py : ByteArray) : Pk := ⟨false, fun _ => 0, false, fun _ => 0, p, h, c, i, o, m, st, op, 0, [], false, py⟩
theorem run_bdD (c i o : Int) (m st : Bool) (h p : Int) (op py : ByteArray) (w : World) : (Instr.build 27 #[(4, .int .i64 c), (5, .int .i64 i), (6, .int .i64 o), (7, .bool m), (8, .bool st), (3, .int .i64 h), (2, .int .i64 p), (9, .string op), (13, .string py)]).run Try.prog w = .ok (.agg (SC 46 (pkV (pk4d c i o m st h p op py) (.slice none 0 0)))) w := by
  kernel_rfl
theorem exec_bdD {a : Act} {oo : Oper} {w : World} {x2 x3 x4 x5 x6 x7 x8 x9 xa : Operand} (ho : oo.op = .build 27 #[(4, x2), (5, x3), (6, x4), (7, x5), (8, x6), (3, x7), (2, x8), (9, x9), (13, xa)]) {c i h p o : Int} {m st : Bool} {op py : ByteArray} {Q4 : Pk}
    (h2 : a.eval x2 = .int .i64 c) (h3 : a.eval x3 = .int .i64 i) (h4 : a.eval x4 = .int .i64 o) (h5 : a.eval x5 = .bool m) (h6 : a.eval x6 = .bool st) (h7 : a.eval x7 = .int .i64 h) (h8 : a.eval x8 = .int .i64 p) (h9 : a.eval x9 = .string op) (ha : a.eval xa = .string py) (he : pk4d c i o m st h p op py = Q4) : (execOp a.eval oo).run Try.prog w = .ok (.value (.agg (SC 46 (pkV Q4 (.slice none 0 0))))) w := by
  subst he
  unfold execOp
  simp only [ho, List.map_toArray, List.map_cons, List.map_nil, h2, h3, h4, h5, h6, h7, h8, h9, ha, Sem.run_bind, run_bdD, Result.andThen_ok, Sem.run_pure]
set_option maxHeartbeats 4000000 in
theorem rRead4_run (b : ByteArray) (w : World) (hsm : b.size < 4611686018427387904) (h20 : 20 ≤ b.size) (R : Rd) (hR : rd4 b = R) : Calls Try.prog 37 #[.string b] w fun e w' => DEnd w R e w' := by
  have HN0 : Hid (∀ ww, Calls Try.prog 38 #[.string b, .int .i64 0, .int .i64 1] ww fun e w' => e = .returned (.int .i64 (((txt b 0).toNat : Nat) : Int)) ∧ Below ww.heap.size ww w') := Hid.mk (fun ww => by
    have := rnum_run b 0 1 ww (by omega) (by decide) (by decide) (by omega)
    rw [getN_one] at this
    exact this)
  have HN2 : Hid (∀ ww, Calls Try.prog 38 #[.string b, .int .i64 2, .int .i64 2] ww fun e w' => e = .returned (.int .i64 ((getN (txt b) 2 2 : Nat) : Int)) ∧ Below ww.heap.size ww w') := Hid.mk (fun ww => by
    have := rnum_run b 2 2 ww (by omega) (by decide) (by decide) (by omega)
    exact this)
  have HN10 : Hid (∀ ww, Calls Try.prog 38 #[.string b, .int .i64 10, .int .i64 2] ww fun e w' => e = .returned (.int .i64 ((getN (txt b) 10 2 : Nat) : Int)) ∧ Below ww.heap.size ww w') := Hid.mk (fun ww => by
    have := rnum_run b 10 2 ww (by omega) (by decide) (by decide) (by omega)
    exact this)
  have HN6 : Hid (∀ ww, Calls Try.prog 38 #[.string b, .int .i64 6, .int .i64 2] ww fun e w' => e = .returned (.int .i64 ((getN (txt b) 6 2 : Nat) : Int)) ∧ Below ww.heap.size ww w') := Hid.mk (fun ww => by
    have := rnum_run b 6 2 ww (by omega) (by decide) (by decide) (by omega)
    exact this)
  have HN4 : Hid (∀ ww, Calls Try.prog 38 #[.string b, .int .i64 4, .int .i64 2] ww fun e w' => e = .returned (.int .i64 ((getN (txt b) 4 2 : Nat) : Int)) ∧ Below ww.heap.size ww w') := Hid.mk (fun ww => by
    have := rnum_run b 4 2 ww (by omega) (by decide) (by decide) (by omega)
    exact this)
  have HN1 : Hid (∀ ww, Calls Try.prog 38 #[.string b, .int .i64 1, .int .i64 1] ww fun e w' => e = .returned (.int .i64 (txt b 1)) ∧ Below ww.heap.size ww w') := Hid.mk (fun ww => by
    have := rnum_run b 1 1 ww (by omega) (by decide) (by decide) (by omega)
    rw [getN_one, Int.toNat_of_nonneg (txt_b b 1).1] at this
    exact this)
  have HN8 : Hid (∀ ww, Calls Try.prog 38 #[.string b, .int .i64 8, .int .i64 1] ww fun e w' => e = .returned (.int .i64 (txt b 8)) ∧ Below ww.heap.size ww w') := Hid.mk (fun ww => by
    have := rnum_run b 8 1 ww (by omega) (by decide) (by decide) (by omega)
    rw [getN_one, Int.toNat_of_nonneg (txt_b b 8).1] at this
    exact this)
  have HN9 : Hid (∀ ww, Calls Try.prog 38 #[.string b, .int .i64 9, .int .i64 1] ww fun e w' => e = .returned (.int .i64 (txt b 9)) ∧ Below ww.heap.size ww w') := Hid.mk (fun ww => by
    have := rnum_run b 9 1 ww (by omega) (by decide) (by decide) (by omega)
    rw [getN_one, Int.toNat_of_nonneg (txt_b b 9).1] at this
    exact this)
  have HR := Hid.mk hR
  have HKS : Hid (∃ K0 SZ, (txt b 0).toNat = K0 ∧ getN (txt b) 2 2 = SZ) := Hid.mk ⟨_, _, rfl, rfl⟩
  obtain ⟨K0, SZ, hK0, hSZ⟩ := HKS.out
  rw [hK0] at HN0
  rw [hSZ] at HN2
  have HK0 := Hid.mk hK0
  obtain ⟨KM, hKM⟩ : ∃ KM, K0 % 16 = KM := ⟨_, rfl⟩
  obtain ⟨H, hHm⟩ : ∃ H, KM * 4 = H := ⟨_, rfl⟩
  have hHb : H ≤ 60 := by omega
  have HH : Hid ((txt b 0).toNat % 16 * 4 = H) := Hid.mk (by rw [hK0, hKM, hHm])
  have HKM := Hid.mk hKM
  have HHM := Hid.mk hHm
  have HSZ := Hid.mk hSZ
  have HSM' := Hid.mk hsm
  have H20 := Hid.mk h20
  clear hR HKS hK0 hSZ hKM hHm
  go_enter Try.func37, Try.ntmps37
  go_wp2_with (refine wl_alO rfl rfl zeroPk ?_; intro g1 u2 hg1 q1 hB2; refine Hid.out ?_)
  refine Hid.mk ?_
  go_wp2_with (go_at_call 38; refine (HN0.out _).mono ?_; rintro e u3 ⟨rfl, hB3⟩; refine Hid.out ?_)
  refine Hid.mk ?_
  go_wp2_with (first | (refine wl_value rfl (exec_remW (i := K0) (m := 16) (q := KM) rfl (by rfl) (by rfl) HKM.out (by decide)) ?_) | (refine wl_value rfl (exec_mulW (i := KM) (m := 4) (q := H) rfl (by rfl) (by rfl) HHM.out (by omega)) ?_) | (go_at_call 38; refine (HN2.out _).mono ?_; rintro e u4 ⟨rfl, hB4⟩; refine Hid.out ?_))
  refine Hid.mk ?_
  have hBa := (hB2.trans (hB3.mono hB2.size))
  replace hBa := hBa.trans (hB4.mono hBa.size)
  have q4 := (q1.kept hB3).kept hB4
  clear hB2 hB3 hB4 q1
  go_upto_region 3 with fail
  refine wp_plain_steps (Below u4.heap.size u4) (fun v v' => Below v.heap.size v v') (fun j vv _ => vv = ([.int .i64 (H : Int), .bool (decide ((H : Int) < 20)), .bool (decide ((H : Int) < 20)), gv (!(decide ((H : Int) < 20))) (.int .i64 (H : Int)), gv (!(decide ((H : Int) < 20))) (.string b), gv (!(decide ((H : Int) < 20))) (.int .i64 (b.size : Int)), gv (!(decide ((H : Int) < 20))) (.bool (decide ((b.size : Int) < (H : Int)))), .bool ((decide ((H : Int) < 20)) || (decide ((b.size : Int) < (H : Int)))), .bool ((decide ((H : Int) < 20)) || (decide ((b.size : Int) < (H : Int)))), gv (!((decide ((H : Int) < 20)) || (decide ((b.size : Int) < (H : Int))))) (.int .i64 (SZ : Int)), gv (!((decide ((H : Int) < 20)) || (decide ((b.size : Int) < (H : Int))))) (.int .i64 (H : Int)), gv (!((decide ((H : Int) < 20)) || (decide ((b.size : Int) < (H : Int))))) (.bool (decide ((SZ : Int) < (H : Int)))), .bool (((decide ((H : Int) < 20)) || (decide ((b.size : Int) < (H : Int)))) || (decide ((SZ : Int) < (H : Int)))), .bool (((decide ((H : Int) < 20)) || (decide ((b.size : Int) < (H : Int)))) || (decide ((SZ : Int) < (H : Int)))), gv (!(((decide ((H : Int) < 20)) || (decide ((b.size : Int) < (H : Int)))) || (decide ((SZ : Int) < (H : Int))))) (.int .i64 (SZ : Int)), gv (!(((decide ((H : Int) < 20)) || (decide ((b.size : Int) < (H : Int)))) || (decide ((SZ : Int) < (H : Int))))) (.string b), gv (!(((decide ((H : Int) < 20)) || (decide ((b.size : Int) < (H : Int)))) || (decide ((SZ : Int) < (H : Int))))) (.int .i64 (b.size : Int)), gv (!(((decide ((H : Int) < 20)) || (decide ((b.size : Int) < (H : Int)))) || (decide ((SZ : Int) < (H : Int))))) (.bool (decide ((b.size : Int) < (SZ : Int)))), .bool ((((decide ((H : Int) < 20)) || (decide ((b.size : Int) < (H : Int)))) || (decide ((SZ : Int) < (H : Int)))) || (decide ((b.size : Int) < (SZ : Int))))] : List Value).getD j undef)
      [18, 19, 20, 21, 22, 23, 24, 25, 26, 27, 28, 29, 30, 31, 32, 33, 34, 35, 36]
      [(4, .int .i64 (H : Int)), (0, .string b), (5, .int .i64 (SZ : Int))] [] 0
      [[], [0], [1], [2], [2], [2, 4], [2, 3, 5], [2, 6], [7], [8], [8], [8, 9, 10], [8, 11], [12], [13], [13], [13, 15], [13, 14, 16], [13, 17]]
      (by kernel_rfl) ⟨rfl, rfl, rfl, trivial⟩ trivial (Below.refl _ _) (fun v v' h hb => h.trans (hb.mono h.size)) (fun _ _ _ _ h _ => h)
      ⟨
      (fun QQ aa ww hS fr kn => sg0 rfl (fun K hK => wp_value (exec_move rfl fr.1) (hK _ _ rfl (Below.refl _ _)))),
      (fun QQ aa ww hS fr kn => sg0 rfl (fun K hK => wp_value (cmp_lt (m := (H : Int)) (n := 20) rfl kn.1 rfl) (hK _ _ rfl (Below.refl _ _)))),
      (fun QQ aa ww hS fr kn => sg0 rfl (fun K hK => wp_value (exec_move rfl kn.1) (hK _ _ rfl (Below.refl _ _)))),
      (fun QQ aa ww hS fr kn => sgF rfl kn.1 (fun hng K hK => have hc := nt_t hng; wp_value (exec_move rfl fr.1) (hK _ _ (gv_t hc).symm (Below.refl _ _))) (fun h0 => (gv_f (nt_f h0)).symm)),
      (fun QQ aa ww hS fr kn => sgF rfl kn.1 (fun hng K hK => have hc := nt_t hng; wp_value (exec_move rfl fr.2.1) (hK _ _ (gv_t hc).symm (Below.refl _ _))) (fun h0 => (gv_f (nt_f h0)).symm)),
      (fun QQ aa ww hS fr kn => sgF rfl kn.1 (fun hng K hK => have hc := nt_t hng; wp_value (exec_lenS rfl (kn.2.1.trans (gv_t hc))) (hK _ _ (gv_t hc).symm (Below.refl _ _))) (fun h0 => (gv_f (nt_f h0)).symm)),
      (fun QQ aa ww hS fr kn => sgF rfl kn.1 (fun hng K hK => have hc := nt_t hng; wp_value (cmp_gt (m := (H : Int)) (n := (b.size : Int)) rfl (kn.2.1.trans (gv_t hc)) (kn.2.2.1.trans (gv_t hc))) (hK _ _ (gv_t hc).symm (Below.refl _ _))) (fun h0 => (gv_f (nt_f h0)).symm)),
      (fun QQ aa ww hS fr kn => sg0 rfl (fun K hK => wp_value (exec_pickOr rfl kn.1 rfl (fun hx => kn.2.1.trans (gv_t (nt_t hx)))) (hK _ _ rfl (Below.refl _ _)))),
      (fun QQ aa ww hS fr kn => sg0 rfl (fun K hK => wp_value (exec_move rfl kn.1) (hK _ _ rfl (Below.refl _ _)))),
      (fun QQ aa ww hS fr kn => sgF rfl kn.1 (fun hng K hK => have hc := nt_t hng; wp_value (exec_move rfl fr.2.2.1) (hK _ _ (gv_t hc).symm (Below.refl _ _))) (fun h0 => (gv_f (nt_f h0)).symm)),
      (fun QQ aa ww hS fr kn => sgF rfl kn.1 (fun hng K hK => have hc := nt_t hng; wp_value (exec_move rfl fr.1) (hK _ _ (gv_t hc).symm (Below.refl _ _))) (fun h0 => (gv_f (nt_f h0)).symm)),
      (fun QQ aa ww hS fr kn => sgF rfl kn.1 (fun hng K hK => have hc := nt_t hng; wp_value (cmp_lt (m := (SZ : Int)) (n := (H : Int)) rfl (kn.2.1.trans (gv_t hc)) (kn.2.2.1.trans (gv_t hc))) (hK _ _ (gv_t hc).symm (Below.refl _ _))) (fun h0 => (gv_f (nt_f h0)).symm)),
      (fun QQ aa ww hS fr kn => sg0 rfl (fun K hK => wp_value (exec_pickOr rfl kn.1 rfl (fun hx => kn.2.1.trans (gv_t (nt_t hx)))) (hK _ _ rfl (Below.refl _ _)))),
      (fun QQ aa ww hS fr kn => sg0 rfl (fun K hK => wp_value (exec_move rfl kn.1) (hK _ _ rfl (Below.refl _ _)))),
      (fun QQ aa ww hS fr kn => sgF rfl kn.1 (fun hng K hK => have hc := nt_t hng; wp_value (exec_move rfl fr.2.2.1) (hK _ _ (gv_t hc).symm (Below.refl _ _))) (fun h0 => (gv_f (nt_f h0)).symm)),
      (fun QQ aa ww hS fr kn => sgF rfl kn.1 (fun hng K hK => have hc := nt_t hng; wp_value (exec_move rfl fr.2.1) (hK _ _ (gv_t hc).symm (Below.refl _ _))) (fun h0 => (gv_f (nt_f h0)).symm)),
      (fun QQ aa ww hS fr kn => sgF rfl kn.1 (fun hng K hK => have hc := nt_t hng; wp_value (exec_lenS rfl (kn.2.1.trans (gv_t hc))) (hK _ _ (gv_t hc).symm (Below.refl _ _))) (fun h0 => (gv_f (nt_f h0)).symm)),
      (fun QQ aa ww hS fr kn => sgF rfl kn.1 (fun hng K hK => have hc := nt_t hng; wp_value (cmp_gt (m := (SZ : Int)) (n := (b.size : Int)) rfl (kn.2.1.trans (gv_t hc)) (kn.2.2.1.trans (gv_t hc))) (hK _ _ (gv_t hc).symm (Below.refl _ _))) (fun h0 => (gv_f (nt_f h0)).symm)),
      (fun QQ aa ww hS fr kn => sg0 rfl (fun K hK => wp_value (exec_pickOr rfl kn.1 rfl (fun hx => kn.2.1.trans (gv_t (nt_t hx)))) (hK _ _ rfl (Below.refl _ _)))),
      trivial⟩ ?_
  intro vs u5 hB5 kn
  have e36 : vs 36 = .bool ((((decide ((H : Int) < 20)) || (decide ((b.size : Int) < (H : Int)))) || (decide ((SZ : Int) < (H : Int)))) || (decide ((b.size : Int) < (SZ : Int)))) := kn 18 (by decide)
  clear kn
  simp only [putAll, Act.put, List.setIfInBounds_toArray, List.set_cons_zero, List.set_cons_succ, e36]
  clear e36
  have q5 := q4.kept hB5
  have hBb := hBa.trans (hB5.mono hBa.size)
  clear q4 hBa hB5
  rcases Bool.eq_false_or_eq_true ((((decide ((H : Int) < 20)) || (decide ((b.size : Int) < (H : Int)))) || (decide ((SZ : Int) < (H : Int)))) || (decide ((b.size : Int) < (SZ : Int)))) with hc | hc
  · rw [hc]
    simp only [Bool.or_eq_true, decide_eq_true_eq] at hc
    have HE : Hid (R = .err 72) := Hid.mk (by rw [← HR.out]; exact r4_len (by rw [HH.out, HSZ.out]; omega))
    clear hc
    go_wp2_with (first | (refine wl_value rfl (exec_pk0 rfl) ?_) | (refine st_stO rfl rfl isPk (fun i => pkV_one rfl i) q5 (by rfl) (by rfl) ?_; intro u90 q90 o90; refine Hid.out ?_))
    refine Hid.mk ?_
    go_wp2_with fail
    exact bodyPost_ret (res_ct rfl isPk q90 (by rfl) (by rfl)) rfl ⟨hBb.trans (o90.below hg1), zeroP, _, 72, rfl, .inl ⟨HE.out, rfl, rfl⟩⟩
  rw [hc]
  simp only [Bool.or_eq_false_iff, decide_eq_false_iff_not] at hc
  have c1 : 20 ≤ H := by omega
  have c2 : H ≤ SZ := by omega
  have c3 : SZ ≤ b.size := by omega
  clear hc
  have HLEN : Hid (¬ ((txt b 0).toNat % 16 * 4 < 20 ∨ getN (txt b) 2 2 < (txt b 0).toNat % 16 * 4 ∨ b.size < getN (txt b) 2 2)) := Hid.mk (by rw [HH.out, HSZ.out]; omega)
  have HS2 : Hid (∀ ww, (Instr.sliceAt 9 (.string b) none (some (.int .i64 10)) none).run Try.prog ww = .ok (.string (b.extract 0 10)) ww) := Hid.mk (fun ww => strH b 10 ww (by omega))
  have HS3 : Hid (∀ ww, (Instr.sliceAt 9 (.string b) (some (.int .i64 12)) (some (.int .i64 (H : Int))) none).run Try.prog ww = .ok (.string (b.extract 12 H)) ww) := Hid.mk (fun ww => cutLH b 12 H ww (by omega) (by omega))
  have HT1 : Hid (∀ ww, (Instr.sliceAt 9 (.string b) (some (.int .i64 12)) (some (.int .i64 16)) none).run Try.prog ww = .ok (.string (b.extract 12 16)) ww) := Hid.mk (fun ww => cutLH b 12 16 ww (by omega) (by omega))
  have HT2 : Hid (∀ ww, (Instr.sliceAt 9 (.string b) (some (.int .i64 16)) (some (.int .i64 20)) none).run Try.prog ww = .ok (.string (b.extract 16 20)) ww) := Hid.mk (fun ww => cutLH b 16 20 ww (by omega) (by omega))
  have HT3 : Hid (∀ ww, (Instr.sliceAt 9 (.string b) (some (.int .i64 20)) (some (.int .i64 (H : Int))) none).run Try.prog ww = .ok (.string (b.extract 20 H)) ww) := Hid.mk (fun ww => cutLH b 20 H ww (by omega) (by omega))
  have HT4 : Hid (∀ ww, (Instr.sliceAt 9 (.string b) (some (.int .i64 (H : Int))) (some (.int .i64 (SZ : Int))) none).run Try.prog ww = .ok (.string (b.extract H SZ)) ww) := Hid.mk (fun ww => cutLH b H SZ ww (by omega) (by omega))
  have HSM : Hid (∀ ww g, ContOK (isOb #[.string (b.extract 0 10), .string ⟨#[0, 0]⟩, .string (b.extract 12 H)] 9) ww g → Calls Try.prog 58 #[.slice (some ⟨g, 0, none⟩) 3 3] ww fun e w' => e = .returned (.int .i64 (sumT (b.extract 0 10 ++ b.extract 12 H))) ∧ Below ww.heap.size ww w') := Hid.mk (fun ww g hc => rSum3_run (b.extract 0 10) (b.extract 12 H) ww g (by rw [cutP_size b 0 10 (by omega)]) (by rw [cutP_size b 0 10 (by omega)]; decide) (by rw [cutP_size b 12 H (by omega)]; omega) hc)
  have HA1 : Hid (∀ ww, Calls Try.prog 39 #[.string (b.extract 12 16)] ww fun e w' => e = .returned (.tuple #[.agg (SC 17 (adV false (frB (b.extract 12 16)))), .int .i64 0]) ∧ Below ww.heap.size ww w') := Hid.mk (fun ww => by
    have e : (b.extract 12 16).size = 4 := cutP_size b 12 16 (by omega)
    have := rFrom_run (b.extract 12 16) ww (.inl e)
    rw [e] at this
    exact this)
  have HA2 : Hid (∀ ww, Calls Try.prog 39 #[.string (b.extract 16 20)] ww fun e w' => e = .returned (.tuple #[.agg (SC 17 (adV false (frB (b.extract 16 20)))), .int .i64 0]) ∧ Below ww.heap.size ww w') := Hid.mk (fun ww => by
    have e : (b.extract 16 20).size = 4 := cutP_size b 16 20 (by omega)
    have := rFrom_run (b.extract 16 20) ww (.inl e)
    rw [e] at this
    exact this)
  have hG : getN (txt b) 6 2 < 65536 := getN_lt2 b 6
  have HSUM : Hid ((sumT (b.extract 0 10 ++ b.extract 12 H) = ((getN (txt b) 10 2 : Nat) : Int)) → ¬ sumT (b.extract 0 10 ++ b.extract 12 ((txt b 0).toNat % 16 * 4)) ≠ (getN (txt b) 10 2 : Int)) := Hid.mk (by rw [HH.out]; exact fun e => not_not_intro e)
  have HSUN : Hid ((sumT (b.extract 0 10 ++ b.extract 12 H) ≠ ((getN (txt b) 10 2 : Nat) : Int)) → R = .err 73) := Hid.mk (fun e => by rw [← HR.out]; exact r4_sum HLEN.out (by rw [HH.out]; exact e))
  have HFO : Hid (sumT (b.extract 0 10 ++ b.extract 12 H) = ((getN (txt b) 10 2 : Nat) : Int) → 32768 ≤ getN (txt b) 6 2 → R = .err 74) := Hid.mk (fun e c => by rw [← HR.out]; exact r4_form HLEN.out (HSUM.out e) c)
  have HOK : Hid (sumT (b.extract 0 10 ++ b.extract 12 H) = ((getN (txt b) 10 2 : Nat) : Int) → ¬ 32768 ≤ getN (txt b) 6 2 → R = .ok (pk4 (frB (b.extract 12 16)) (frB (b.extract 16 20)) (txt b 1) ((getN (txt b) 4 2 : Nat) : Int) (txt b 8) (txt b 9) ((getN (txt b) 6 2 % 8192 * 8 : Nat) : Int) (decide (((getN (txt b) 6 2 / 8192 % 2 : Nat) : Int) = 1)) (decide (((getN (txt b) 6 2 / 16384 : Nat) : Int) = 1)) (b.extract 20 H) (b.extract H SZ))) := Hid.mk (fun e c => by
    have e1 : decide (((getN (txt b) 6 2 / 8192 % 2 : Nat) : Int) = 1) = decide (getN (txt b) 6 2 / 8192 % 2 = 1) := decide_eq_decide.2 (by omega)
    have e2 : decide (((getN (txt b) 6 2 / 16384 : Nat) : Int) = 1) = decide (getN (txt b) 6 2 / 16384 = 1) := decide_eq_decide.2 (by omega)
    rw [e1, e2, ← HR.out, ← HH.out, ← HSZ.out]
    unfold rd4
    exact (if_neg HLEN.out).trans ((if_neg (HSUM.out e)).trans (if_neg c)))
  clear HSUM HLEN
  obtain ⟨QD, hQD⟩ : ∃ QD, pk4d (txt b 1) ((getN (txt b) 4 2 : Nat) : Int) ((getN (txt b) 6 2 % 8192 * 8 : Nat) : Int) (decide (((getN (txt b) 6 2 / 8192 % 2 : Nat) : Int) = 1)) (decide (((getN (txt b) 6 2 / 16384 : Nat) : Int) = 1)) (txt b 8) (txt b 9) (b.extract 20 H) (b.extract H SZ) = QD := ⟨_, rfl⟩
  have HQE : Hid (pk4 (frB (b.extract 12 16)) (frB (b.extract 16 20)) (txt b 1) ((getN (txt b) 4 2 : Nat) : Int) (txt b 8) (txt b 9) ((getN (txt b) 6 2 % 8192 * 8 : Nat) : Int) (decide (((getN (txt b) 6 2 / 8192 % 2 : Nat) : Int) = 1)) (decide (((getN (txt b) 6 2 / 16384 : Nat) : Int) = 1)) (b.extract 20 H) (b.extract H SZ) = { { QD with sv := false, sb := frB (b.extract 12 16) } with dv := false, db := frB (b.extract 16 20) }) := Hid.mk (by rw [← hQD]; rfl)
  rw [HQE.out] at HOK
  have HEX : Hid (QD.exts = []) := Hid.mk (by rw [← hQD]; rfl)
  have HBD := Hid.mk hQD
  clear hQD HQE
  have hsb := sumT_b (b.extract 0 10 ++ b.extract 12 H)
  generalize sumT (b.extract 0 10 ++ b.extract 12 H) = Z at *
  generalize b.extract 0 10 = X2 at *
  generalize b.extract 12 H = X3 at *
  generalize frB (b.extract 12 16) = F1 at *
  generalize frB (b.extract 16 20) = F2 at *
  generalize b.extract 12 16 = A1 at *
  generalize b.extract 16 20 = A2 at *
  generalize b.extract 20 H = OP at *
  generalize b.extract H SZ = PY at *
  generalize getN (txt b) 6 2 = G6 at *
  generalize getN (txt b) 4 2 = I4 at *
  generalize getN (txt b) 10 2 = G10 at *
  generalize txt b 1 = C1 at *
  generalize txt b 8 = H8 at *
  generalize txt b 9 = P9 at *
  go_upto_region 5 with fail
  refine wp_region3 (Below u5.heap.size u5) u5.heap.size
      ([] : List (Nat × Cont))
      [kv (.string b), kv (.string X2), kv (.string b), kv (.int .i64 (H : Int)), kv (.string X3), ks 3 #[.string X2, .string ⟨#[0, 0]⟩, .string X3] 9, kv (.int .i64 Z), kv (.string b), kv (.int .i64 ((G10 : Nat) : Int)), kv (.bool (!decide (Z = ((G10 : Nat) : Int))))]
      [.none, .none, .none, .none, .none, .none, .none, .none, .none, .none]
      [some 38, some 39, some 40, some 41, some 42, some 43, some 44, some 45, some 46, some 47]
      [(0, .string b), (4, .int .i64 (H : Int))]
      [[], [.slot 0], [], [], [.slot 2, .slot 3], [.slot 1, .slot 4], [.slot 5, .cont 5 0], [], [.slot 7], [.slot 6, .slot 8]]
      [.slot 9] [38, 39, 40, 41, 42, 43, 44, 45, 46, 47]
      rfl (by kernel_rfl) ⟨rfl, rfl, trivial⟩ ((Below.refl _ u5).drew) (Nat.le_refl _) trivial trivial (below_GcW (Nat.le_refl _))
      ⟨
      (fun QQ aa ww own hS hBg fr kn => .inl ⟨trivial, fun K hK => wp_value (exec_move rfl fr.1) (hK _ _ ⟨Touch.refl _ _, rfl⟩)⟩),
      (fun QQ aa ww own hS hBg fr kn => .inl ⟨trivial, fun K hK => wp_value (exec_slH (u := .int .i64 10) rfl kn.1 rfl (HS2.out ww)) (hK _ _ ⟨Touch.refl _ _, rfl⟩)⟩),
      (fun QQ aa ww own hS hBg fr kn => .inl ⟨trivial, fun K hK => wp_value (exec_move rfl fr.1) (hK _ _ ⟨Touch.refl _ _, rfl⟩)⟩),
      (fun QQ aa ww own hS hBg fr kn => .inl ⟨trivial, fun K hK => wp_value (exec_move rfl fr.2.1) (hK _ _ ⟨Touch.refl _ _, rfl⟩)⟩),
      (fun QQ aa ww own hS hBg fr kn => .inl ⟨trivial, fun K hK => wp_value (exec_slLH (u := .int .i64 12) (u' := .int .i64 (H : Int)) rfl kn.1 rfl kn.2.1 (HS3.out ww)) (hK _ _ ⟨Touch.refl _ _, rfl⟩)⟩),
      (fun QQ aa ww own hS hBg fr kn => .inl ⟨trivial, fun K hK => act_bsT3 rfl kn.1 rfl kn.2.1 (fun w' hb hz hc => hK _ _ ⟨touch_below hb, _, hz, rfl, hc⟩)⟩),
      (fun QQ aa ww own hS hBg fr kn => .inl ⟨trivial, fun K hK => stepc en_rSum rfl (args1 kn.1.1) (HSM.out ww (own 5) kn.2.1) (fun w' hb => hK _ _ ⟨touch_below hb, rfl⟩)⟩),
      (fun QQ aa ww own hS hBg fr kn => .inl ⟨trivial, fun K hK => wp_value (exec_move rfl fr.1) (hK _ _ ⟨Touch.refl _ _, rfl⟩)⟩),
      (fun QQ aa ww own hS hBg fr kn => .inl ⟨trivial, fun K hK => stepc en_rnum rfl (args3 kn.1 rfl rfl) (HN10.out ww) (fun w' hb => hK _ _ ⟨touch_below hb, rfl⟩)⟩),
      (fun QQ aa ww own hS hBg fr kn => .inl ⟨trivial, fun K hK => wp_value (cmp_ne (m := Z) (n := ((G10 : Nat) : Int)) rfl kn.1 kn.2.1) (hK _ _ ⟨Touch.refl _ _, rfl⟩)⟩),
      trivial⟩ ?_
  intro vs own u6 hB6 hsz kn inj
  have e47 : vs 47 = .bool (!decide (Z = ((G10 : Nat) : Int))) := kn.1
  clear kn inj hsz
  simp only [putAll, Act.put, List.setIfInBounds_toArray, List.set_cons_zero, List.set_cons_succ, e47]
  clear e47
  have q6 := q5.kept hB6
  have hBc := hBb.trans (hB6.mono hBb.size)
  clear q5 hBb hB6
  by_cases c5 : Z = ((G10 : Nat) : Int)
  case neg =>
    have HE : Hid (R = .err 73) := Hid.mk (HSUN.out c5)
    have hd5 : (!decide (Z = ((G10 : Nat) : Int))) = true := by rw [decide_eq_false c5]; rfl
    rw [hd5]
    clear hd5 c5
    go_wp2_with (first | (refine wl_value rfl (exec_pk0 rfl) ?_) | (refine st_stO rfl rfl isPk (fun i => pkV_one rfl i) q6 (by rfl) (by rfl) ?_; intro u90 q90 o90; refine Hid.out ?_))
    refine Hid.mk ?_
    go_wp2_with fail
    exact bodyPost_ret (res_ct rfl isPk q90 (by rfl) (by rfl)) rfl ⟨hBc.trans (o90.below hg1), zeroP, _, 73, rfl, .inl ⟨HE.out, rfl, rfl⟩⟩
  have hd5 : (!decide (Z = ((G10 : Nat) : Int))) = false := by rw [decide_eq_true c5]; rfl
  have HC5 := Hid.mk c5
  rw [hd5]
  clear hd5 c5
  go_wp2_with (go_at_call 38; refine (HN6.out _).mono ?_; rintro e u7 ⟨rfl, hB7⟩; refine Hid.out ?_)
  refine Hid.mk ?_
  have q7 := q6.kept hB7
  have hBd := hBc.trans (hB7.mono hBc.size)
  clear q6 hBc hB7
  by_cases c7 : 32768 ≤ G6
  case pos =>
    have HE : Hid (R = .err 74) := Hid.mk (HFO.out HC5.out c7)
    have c7' : (32768 : Int) ≤ (G6 : Int) := by omega
    go_wp2_with (first | (refine wl_value rfl (exec_pk0 rfl) ?_) | (refine st_stO rfl rfl isPk (fun i => pkV_one rfl i) q7 (by rfl) (by rfl) ?_; intro u90 q90 o90; refine Hid.out ?_))
    refine Hid.mk ?_
    go_wp2_with fail
    exact bodyPost_ret (res_ct rfl isPk q90 (by rfl) (by rfl)) rfl ⟨hBd.trans (o90.below hg1), zeroP, _, 74, rfl, .inl ⟨HE.out, rfl, rfl⟩⟩
  have c7' : ¬ (32768 : Int) ≤ (G6 : Int) := by omega
  have HOK2 := Hid.mk (HOK.out HC5.out c7)
  have hg6 : G6 < 32768 := by omega
  have hid : ∃ u8, u8 = u7 := ⟨u7, rfl⟩
  obtain ⟨u8, rfl⟩ := hid
  clear c7
  go_upto_region 10 with fail
  refine wp_region_cut 27 rfl (by kernel_rfl) (any_steps (Below u8.heap.size u8) (fun v v' => Below v.heap.size v v') (phA 26 ([.string b, .int .i64 C1, .string b, .int .i64 ((I4 : Nat) : Int), .int .i64 ((G6 : Nat) : Int), .int .i64 ((G6 % 8192 : Nat) : Int), .int .i64 ((G6 % 8192 * 8 : Nat) : Int), .int .i64 ((G6 : Nat) : Int), .int .i64 ((G6 / 8192 : Nat) : Int), .int .i64 ((G6 / 8192 % 2 : Nat) : Int), .bool (decide (((G6 / 8192 % 2 : Nat) : Int) = 1)), .int .i64 ((G6 : Nat) : Int), .int .i64 ((G6 / 16384 : Nat) : Int), .bool (decide (((G6 / 16384 : Nat) : Int) = 1)), .string b, .int .i64 H8, .string b, .int .i64 P9, .string b, .int .i64 (H : Int), .string OP, .string b, .int .i64 (H : Int), .int .i64 (SZ : Int), .string PY, .agg (SC 46 (pkV QD (.slice none 0 0))), undef] : List Value) u8.heap.size)
      [54, 55, 56, 57, 58, 59, 60, 61, 62, 63, 64, 65, 66, 67, 68, 69, 70, 71, 72, 73, 74, 75, 76, 77, 78, 79, 7]
      [(0, .string b), (6, .int .i64 ((G6 : Nat) : Int)), (4, .int .i64 (H : Int)), (5, .int .i64 (SZ : Int))]
      [[], [0], [], [2], [], [4], [5], [], [7], [8], [9], [], [11], [12], [], [14], [], [16], [], [], [18, 19], [], [], [], [21, 22, 23], [1, 3, 6, 10, 13, 15, 17, 20, 24], []]
      (by kernel_rfl) ⟨rfl, rfl, rfl, rfl, trivial⟩ (Below.drew (Below.refl _ _)) (fun v v' h hb => h.trans (hb.mono h.size)) (fun j vv v v' h hb => phA_kept h hb)
      ⟨
      (fun QQ aa ww hS fr kn => ⟨trivial, fun K hK => wp_value (exec_move rfl fr.1) (hK _ _ rfl (Below.refl _ _))⟩),
      (fun QQ aa ww hS fr kn => ⟨trivial, fun K hK => stepc en_rnum rfl (args3 kn.1 rfl rfl) (HN1.out ww) (fun w' hb => hK _ _ rfl hb)⟩),
      (fun QQ aa ww hS fr kn => ⟨trivial, fun K hK => wp_value (exec_move rfl fr.1) (hK _ _ rfl (Below.refl _ _))⟩),
      (fun QQ aa ww hS fr kn => ⟨trivial, fun K hK => stepc en_rnum rfl (args3 kn.1 rfl rfl) (HN4.out ww) (fun w' hb => hK _ _ rfl hb)⟩),
      (fun QQ aa ww hS fr kn => ⟨trivial, fun K hK => wp_value (exec_move rfl fr.2.1) (hK _ _ rfl (Below.refl _ _))⟩),
      (fun QQ aa ww hS fr kn => ⟨trivial, fun K hK => wp_value (exec_remW (i := G6) (m := 8192) rfl kn.1 rfl rfl (by decide)) (hK _ _ rfl (Below.refl _ _))⟩),
      (fun QQ aa ww hS fr kn => ⟨trivial, fun K hK => wp_value (exec_mulW (i := G6 % 8192) (m := 8) rfl kn.1 rfl rfl (by omega)) (hK _ _ rfl (Below.refl _ _))⟩),
      (fun QQ aa ww hS fr kn => ⟨trivial, fun K hK => wp_value (exec_move rfl fr.2.1) (hK _ _ rfl (Below.refl _ _))⟩),
      (fun QQ aa ww hS fr kn => ⟨trivial, fun K hK => wp_value (exec_quoW (i := G6) (m := 8192) rfl kn.1 rfl rfl (by decide) (by omega)) (hK _ _ rfl (Below.refl _ _))⟩),
      (fun QQ aa ww hS fr kn => ⟨trivial, fun K hK => wp_value (exec_remW (i := G6 / 8192) (m := 2) rfl kn.1 rfl rfl (by decide)) (hK _ _ rfl (Below.refl _ _))⟩),
      (fun QQ aa ww hS fr kn => ⟨trivial, fun K hK => wp_value (cmp_eq (m := ((G6 / 8192 % 2 : Nat) : Int)) (n := 1) rfl kn.1 rfl) (hK _ _ rfl (Below.refl _ _))⟩),
      (fun QQ aa ww hS fr kn => ⟨trivial, fun K hK => wp_value (exec_move rfl fr.2.1) (hK _ _ rfl (Below.refl _ _))⟩),
      (fun QQ aa ww hS fr kn => ⟨trivial, fun K hK => wp_value (exec_quoW (i := G6) (m := 16384) rfl kn.1 rfl rfl (by decide) (by omega)) (hK _ _ rfl (Below.refl _ _))⟩),
      (fun QQ aa ww hS fr kn => ⟨trivial, fun K hK => wp_value (cmp_eq (m := ((G6 / 16384 : Nat) : Int)) (n := 1) rfl kn.1 rfl) (hK _ _ rfl (Below.refl _ _))⟩),
      (fun QQ aa ww hS fr kn => ⟨trivial, fun K hK => wp_value (exec_move rfl fr.1) (hK _ _ rfl (Below.refl _ _))⟩),
      (fun QQ aa ww hS fr kn => ⟨trivial, fun K hK => stepc en_rnum rfl (args3 kn.1 rfl rfl) (HN8.out ww) (fun w' hb => hK _ _ rfl hb)⟩),
      (fun QQ aa ww hS fr kn => ⟨trivial, fun K hK => wp_value (exec_move rfl fr.1) (hK _ _ rfl (Below.refl _ _))⟩),
      (fun QQ aa ww hS fr kn => ⟨trivial, fun K hK => stepc en_rnum rfl (args3 kn.1 rfl rfl) (HN9.out ww) (fun w' hb => hK _ _ rfl hb)⟩),
      (fun QQ aa ww hS fr kn => ⟨trivial, fun K hK => wp_value (exec_move rfl fr.1) (hK _ _ rfl (Below.refl _ _))⟩),
      (fun QQ aa ww hS fr kn => ⟨trivial, fun K hK => wp_value (exec_move rfl fr.2.2.1) (hK _ _ rfl (Below.refl _ _))⟩),
      (fun QQ aa ww hS fr kn => ⟨trivial, fun K hK => wp_value (exec_slLH (u := .int .i64 20) (u' := .int .i64 (H : Int)) rfl kn.1 rfl kn.2.1 (HT3.out ww)) (hK _ _ rfl (Below.refl _ _))⟩),
      (fun QQ aa ww hS fr kn => ⟨trivial, fun K hK => wp_value (exec_move rfl fr.1) (hK _ _ rfl (Below.refl _ _))⟩),
      (fun QQ aa ww hS fr kn => ⟨trivial, fun K hK => wp_value (exec_move rfl fr.2.2.1) (hK _ _ rfl (Below.refl _ _))⟩),
      (fun QQ aa ww hS fr kn => ⟨trivial, fun K hK => wp_value (exec_move rfl fr.2.2.2.1) (hK _ _ rfl (Below.refl _ _))⟩),
      (fun QQ aa ww hS fr kn => ⟨trivial, fun K hK => wp_value (exec_slLH (u := .int .i64 (H : Int)) (u' := .int .i64 (SZ : Int)) rfl kn.1 kn.2.1 kn.2.2.1 (HT4.out ww)) (hK _ _ rfl (Below.refl _ _))⟩),
      (fun QQ aa ww hS fr kn => ⟨trivial, fun K hK => wp_value (exec_bdD rfl kn.1 kn.2.1 kn.2.2.1 kn.2.2.2.1 kn.2.2.2.2.1 kn.2.2.2.2.2.1 kn.2.2.2.2.2.2.1 kn.2.2.2.2.2.2.2.1 kn.2.2.2.2.2.2.2.2.1 HBD.out) (hK _ _ rfl (Below.refl _ _))⟩),
      (fun QQ aa ww hS fr kn => ⟨trivial, fun K hK => act_alloc zeroPk rfl (fun w2 hb hg => hK _ _ ⟨_, hS.size, rfl, hg⟩ hb)⟩),
      trivial⟩ ?_)
  intro vs u9 hB9 kn
  have e79 : vs 79 = .agg (SC 46 (pkV QD (.slice none 0 0))) := kn 25 (by decide)
  obtain ⟨gp, hgp, e7, qp⟩ : ∃ gp, u8.heap.size ≤ gp ∧ vs 7 = .pointer (some ⟨gp, 0, none⟩) ∧ SAt u9 gp 27 46 (pkV zeroP (.slice none 0 0)) := kn 26 (by decide)
  clear kn
  show wpList Try.prog _ _ (_ :: []) _ _
  simp only [putAll, Act.put, List.setIfInBounds_toArray, List.set_cons_zero, List.set_cons_succ, e79, e7]
  clear e79 e7
  have q9 := q7.kept hB9
  have l7 := heap_lt q7
  have hBe := hBd.trans (hB9.mono hBd.size)
  have hs8 := hBd.size
  clear q7 hBd
  go_wp2_with (refine st_stO rfl rfl isPk (fun i => pkV_one rfl i) qp (by rfl) (by rfl) ?_; intro u10 p10 o10; refine Hid.out ?_)
  refine Hid.mk ?_
  have q10 := q9.only o10 (by omega)
  have hBf := hBe.trans (o10.below (show w.heap.size ≤ gp by omega))
  have hgpw : w.heap.size ≤ gp := by omega
  have hneq : g1 ≠ gp := by omega
  clear q9 hBe o10 qp hB9 l7
  go_wp2_with (first | (refine wl_value rfl (exec_slLH (u := .int .i64 12) (u' := .int .i64 16) rfl (by rfl) (by rfl) (by rfl) (HT1.out _)) ?_) | (go_at_call 39; refine (HA1.out _).mono ?_; rintro e x1 ⟨rfl, hBx1⟩; refine Hid.out ?_))
  refine Hid.mk ?_
  go_wp2_with (refine wl_alO rfl rfl zeroAddr ?_; intro g8 u11 hg8 q8 hB11; refine Hid.out ?_)
  refine Hid.mk ?_
  have p11 := (p10.kept hBx1).kept hB11
  have q11 := (q10.kept hBx1).kept hB11
  have hBg0 := hBf.trans (hBx1.mono hBf.size)
  have hBg := hBg0.trans (hB11.mono hBg0.size)
  have l10 := heap_lt p10
  have l10q := heap_lt q10
  have s1 := hBx1.size
  have s0 := hBg0.size
  go_wp2_with (refine st_stO rfl rfl isAddr (adV_one _ _) q8 (by rfl) (by rfl) ?_; intro u12 r8 o12; refine Hid.out ?_)
  refine Hid.mk ?_
  have p12 := p11.only o12 (by omega)
  have q12 := q11.only o12 (by omega)
  have hBh := hBg.trans (o12.below (show w.heap.size ≤ g8 by omega))
  have hne8 : g8 ≠ gp := by omega
  have hne8q : g1 ≠ g8 := by omega
  clear p10 p11 q10 q11 hBf hBg0 hBg o12 q8 hB11 hBx1 l10 l10q s1 s0
  go_wp2_with (first | (refine wl_value rfl (exec_slLH (u := .int .i64 16) (u' := .int .i64 20) rfl (by rfl) (by rfl) (by rfl) (HT2.out _)) ?_) | (go_at_call 39; refine (HA2.out _).mono ?_; rintro e x2 ⟨rfl, hBx2⟩; refine Hid.out ?_))
  refine Hid.mk ?_
  go_wp2_with (refine wl_alO rfl rfl zeroAddr ?_; intro g10 u13 hg10 q10 hB13; refine Hid.out ?_)
  refine Hid.mk ?_
  have p13 := (p12.kept hBx2).kept hB13
  have q13 := (q12.kept hBx2).kept hB13
  have r13 := (r8.kept hBx2).kept hB13
  have hBg0 := hBh.trans (hBx2.mono hBh.size)
  have hBg := hBg0.trans (hB13.mono hBg0.size)
  have l10 := heap_lt p12
  have l10q := heap_lt q12
  have l10r := heap_lt r8
  have s1 := hBx2.size
  have s0 := hBg0.size
  go_wp2_with (refine st_stO rfl rfl isAddr (adV_one _ _) q10 (by rfl) (by rfl) ?_; intro u14 r10 o14; refine Hid.out ?_)
  refine Hid.mk ?_
  have p14 := p13.only o14 (by omega)
  have q14 := q13.only o14 (by omega)
  have r14 := r13.only o14 (by omega)
  have hBi := hBg.trans (o14.below (show w.heap.size ≤ g10 by omega))
  have hne10 : g10 ≠ gp := by omega
  have hne10q : g1 ≠ g10 := by omega
  clear p12 p13 q12 q13 r8 r13 hBh hBg0 hBg o14 q10 hB13 hBx2 l10 l10q l10r s1 s0
  go_wp2_with (first | (refine wl_value rfl (look_st rfl isAddr r14 (by rfl)) ?_) | (refine wl_value rfl (exec_fpkL 0 0 (by decide) rfl rfl (by rfl)) ?_) | (refine wl_stAd rfl rfl (by rfl) (by rfl) (by decide) p14 (pk_upS _ _ _ _) ?_; intro u15 p15 o15; refine Hid.out ?_))
  refine Hid.mk ?_
  have q15 := q14.only o15 hneq
  have r15 := r10.only o15 hne10
  have hBj := hBi.trans (o15.below hgpw)
  clear p14 q14 r14 r10 hBi o15
  go_wp2_with (first | (refine wl_value rfl (look_st rfl isAddr r15 (by rfl)) ?_) | (refine wl_value rfl (exec_fpkL 1 17 (by decide) rfl rfl (by rfl)) ?_) | (refine wl_stAd rfl rfl (by rfl) (by rfl) (by decide) p15 (pk_upD _ _ _ _) ?_; intro u16 p16 o16; refine Hid.out ?_))
  refine Hid.mk ?_
  have q16 := q15.only o16 hneq
  have hBk := hBj.trans (o16.below hgpw)
  clear p15 q15 r15 hBj o16
  go_wp2_with (first | (refine wl_value rfl (look_st rfl isPk p16 (by rfl)) ?_) | (refine st_stO rfl rfl isPk (fun i => pkV_one rfl i) q16 (by rfl) (by rfl) ?_; intro u17 q17 o17; refine Hid.out ?_))
  refine Hid.mk ?_
  go_wp2_with fail
  exact bodyPost_ret (res_ct rfl isPk q17 (by rfl) (by rfl)) rfl ⟨hBk.trans (o17.below hg1), _, _, 0, rfl, .inr ⟨fun _ _ => undef, HOK2.out, rfl, by show World.ownsRow _ _ _ _ _ QD.exts.length _; rw [HEX.out]; exact World.ownsRow_nil _ _ _ _, fun j x hj => by change QD.exts[j]? = _ at hj; rw [HEX.out] at hj; simp at hj⟩⟩
end Go.Proofs.Ytdlepeogmjmleaa
/-
  Own text. The document's exts: extension headers are read.
-/
namespace Go.Proofs.Ytdlepeogmjmleaa
open Go.RowKit Go.Proofs
set_option maxRecDepth 100000
section
variable {gp B n nn : Nat} {P : Pk} {v : Value} {k : Int} {bd rest : ByteArray} {Z : Nat → Nat → Value} {u w w' : World} {L : Nat → Bool}
def bpS (gp B n : Nat) (P : Pk) (v : Value) (Z : Nat → Nat → Value) (u : World) (L : Nat → Bool) (w : World) : Prop :=
  SAt w gp 27 46 (pkV P v) ∧ Touch (fun k => v.ownBlock = some k) u w ∧ (L 8 = false → w.ownsRow B 36 2 v n (rX 2 Z n))
def bpF (gp B n nn : Nat) (v : Value) (k : Int) (bd rest : ByteArray) (Z : Nat → Nat → Value) (u : World) (L : Nat → Bool) (i : Nat) (val : Value) (w : World) : Prop :=
  match i with
  | 0 => val = .pointer (some ⟨gp, 43, none⟩)
  | 1 => val = v
  | 2 => val = .int .i64 k
  | 3 => val = .string rest
  | 4 => val = .int .i64 (nn : Int)
  | 5 => val = .string bd
  | 6 => val = .agg (SC 2 (exV ⟨k, bd⟩))
  | 7 => ∃ b, val = .slice (some ⟨b, 0, none⟩) 1 1 ∧ (L 8 = false → SAt w b 36 2 (exV ⟨k, bd⟩))
  | 8 => w.ownsRow B 36 2 val (n + 1) (rX 2 (setG Z n (exV ⟨k, bd⟩)) (n + 1)) ∧ (∀ q, val.ownBlock = some q → v.ownBlock = some q ∨ u.heap.size ≤ q)
  | _ => True
theorem apN_8 {i : Nat} (h : i ≠ 8) : apN i L 8 = L 8 := by unfold apN; rw [if_neg (fun e => h e.symm)]
theorem bpS_same {i : Nat} (h : i ≠ 8) (hS : bpS gp B n P v Z u L w) : bpS gp B n P v Z u (apN i L) w := by
  unfold bpS at hS ⊢
  rw [apN_8 h]
  exact hS
theorem bpF_same {i j : Nat} {val : Value} (h : i ≠ 8) (hF : bpF gp B n nn v k bd rest Z u L j val w) : bpF gp B n nn v k bd rest Z u (apN i L) j val w := by
  unfold bpF at hF ⊢
  rw [apN_8 h]
  exact hF
theorem bpS_grow {i : Nat} (h : i ≠ 8) (hS : bpS gp B n P v Z u L w) (hb : Below w.heap.size w w') : bpS gp B n P v Z u (apN i L) w' := by
  unfold bpS at hS ⊢
  rw [apN_8 h]
  obtain ⟨h2, h4, h5⟩ := hS
  exact ⟨h2.kept hb, h4.bel hb h4.size, fun e => ownT_kept (h5 e) hb⟩
theorem bpF_grow {i j : Nat} {val : Value} (h : i ≠ 8) (hF : bpF gp B n nn v k bd rest Z u L j val w) (hb : Below w.heap.size w w') : bpF gp B n nn v k bd rest Z u (apN i L) j val w' := by
  have h2 := bpF_same h hF
  generalize apN i L = M at *
  match j, h2 with
  | 0, h2 => exact h2
  | 1, h2 => exact h2
  | 2, h2 => exact h2
  | 3, h2 => exact h2
  | 4, h2 => exact h2
  | 5, h2 => exact h2
  | 6, h2 => exact h2
  | 7, ⟨b, e, h3⟩ => exact ⟨b, e, fun hm => (h3 hm).kept hb⟩
  | 8, ⟨h3, h4⟩ => exact ⟨ownT_kept h3 hb, h4⟩
  | _ + 9, _ => trivial
/-- One step of the region. -/
def bpT (gp B n nn : Nat) (P : Pk) (v : Value) (k : Int) (bd rest : ByteArray) (Z : Nat → Nat → Value) (u : World) (ops : Array Oper) (i : Nat) (o : Oper) : Prop :=
  ∀ (Q : Exit → Act → World → Prop) (L : Nat → Bool) (a : Act) (w : World), bpS gp B n P v Z u L w → L i = false → (∀ k, predOf o k = true → L k = true) → a.eval (.tmp 1) = .int .i64 k → a.eval (.tmp 2) = .string rest → a.eval (.tmp 3) = .pointer (some ⟨gp, 0, none⟩) → a.eval (.tmp 12) = .int .i64 (nn : Int) →
    (∀ (j : Nat) (oj : Oper) (d : Nat), ops[j]? = some oj → oj.dst = some d → L j = true → bpF gp B n nn v k bd rest Z u L j (a.eval (.tmp d)) w) →
    wpOp Try.prog ops Q i (fun a' w' => ∃ val, a' = a.put o.dst val ∧ bpS gp B n P v Z u (apN i L) w' ∧ bpF gp B n nn v k bd rest Z u (apN i L) i val w' ∧ ∀ j z, j ≠ i → L j = true → bpF gp B n nn v k bd rest Z u L j z w → bpF gp B n nn v k bd rest Z u (apN i L) j z w') a w
theorem bp_value {ops : Array Oper} {i : Nat} {o : Oper} (hi : ops[i]? = some o) (hgd : o.guard = none) (h7 : i ≠ 8) {Q : Exit → Act → World → Prop} {L : Nat → Bool} {a : Act} {w : World} (hS : bpS gp B n P v Z u L w) {val : Value} (he : (execOp a.eval o).run Try.prog w = .ok (.value val) w) (hF : ∀ M, bpF gp B n nn v k bd rest Z u M i val w) :
    wpOp Try.prog ops Q i (fun a' w' => ∃ val, a' = a.put o.dst val ∧ bpS gp B n P v Z u (apN i L) w' ∧ bpF gp B n nn v k bd rest Z u (apN i L) i val w' ∧ ∀ j z, j ≠ i → L j = true → bpF gp B n nn v k bd rest Z u L j z w → bpF gp B n nn v k bd rest Z u (apN i L) j z w') a w := by
  refine wpOp_of hi hgd (wp_value he ⟨val, rfl, bpS_same h7 hS, hF _, fun j z _ _ h => bpF_same h7 h⟩)
theorem bp_all {ops : Array Oper} {a0 : Act} {Q : Exit → Act → World → Prop} (hst : StW (bpT gp B n nn P v k bd rest Z u ops) ops.toList 0) (h1 : (dsts ops).all (fun d => decide (d ≠ 1)) = true) (h2 : (dsts ops).all (fun d => decide (d ≠ 2)) = true) (h3 : (dsts ops).all (fun d => decide (d ≠ 3)) = true) (h12 : (dsts ops).all (fun d => decide (d ≠ 12)) = true) (f1 : a0.tmps[1]? = some (.int .i64 k)) (f2 : a0.tmps[2]? = some (.string rest)) (f3 : a0.tmps[3]? = some (.pointer (some ⟨gp, 0, none⟩))) (f12 : a0.tmps[12]? = some (.int .i64 (nn : Int))) :
    ∀ (i : Nat) (o : Oper), ops[i]? = some o → ∀ (L : Nat → Bool) (a : Act) (w : World), bpS gp B n P v Z u L w → L i = false →
      (∀ (j : Nat) (oj : Oper), ops[j]? = some oj → L j = true → ∀ k, predOf oj k = true → L k = true) → (∀ k, predOf o k = true → L k = true) →
      (∀ t : Nat, (∀ (j : Nat) (oj : Oper), ops[j]? = some oj → oj.dst ≠ some t) → a.tmps[t]? = a0.tmps[t]?) →
      (∀ (j : Nat) (oj : Oper) (d : Nat), ops[j]? = some oj → oj.dst = some d → L j = true → bpF gp B n nn v k bd rest Z u L j (a.tmps.getD d undef) w) →
      wpOp Try.prog ops Q i (fun a' w' => ∃ v', a' = a.put o.dst v' ∧ bpS gp B n P v Z u (fun j => if j = i then true else L j) w' ∧ bpF gp B n nn v k bd rest Z u (fun j => if j = i then true else L j) i v' w' ∧ ∀ j z, j ≠ i → L j = true → bpF gp B n nn v k bd rest Z u L j z w → bpF gp B n nn v k bd rest Z u (fun j => if j = i then true else L j) j z w') a w := by
  intro i o hi L a w hS hL _ hpr hfr hkn
  have h := stW_at hst i o (by rw [← hi]; simp)
  rw [Nat.zero_add] at h
  exact h _ L a w hS hL hpr (getD_of ((hfr 1 (notDst h1)).trans f1)) (getD_of ((hfr 2 (notDst h2)).trans f2)) (getD_of ((hfr 3 (notDst h3)).trans f3)) (getD_of ((hfr 12 (notDst h12)).trans f12)) hkn
theorem bp_seven {ops : Array Oper} {o : Oper} (hi : ops[7]? = some o) (hgd : o.guard = none) {Q : Exit → Act → World → Prop} {L : Nat → Bool} {a : Act} {w : World} (hS : bpS gp B n P v Z u L w) {y : Operand} (ho : o.op = .buildSlice 25 1 #[(0, y)]) (hy : a.eval y = .agg (SC 2 (exV ⟨k, bd⟩))) :
    wpOp Try.prog ops Q 7 (fun a' w' => ∃ val, a' = a.put o.dst val ∧ bpS gp B n P v Z u (apN 7 L) w' ∧ bpF gp B n nn v k bd rest Z u (apN 7 L) 7 val w' ∧ ∀ j z, j ≠ 7 → L j = true → bpF gp B n nn v k bd rest Z u L j z w → bpF gp B n nn v k bd rest Z u (apN 7 L) j z w') a w := by
  have hr := run_bsX ⟨k, bd⟩ w
  have hb : Below w.heap.size w (w.alloc (.cells (SC 2 (exV ⟨k, bd⟩)) 36)) := (Below.refl _ w).alloc (Nat.le_refl _) _
  refine wpOp_of hi hgd ?_
  unfold Oper.wp execOp
  simp only [ho, List.map_toArray, List.map_cons, List.map_nil, hy, Sem.run_bind, hr, Result.andThen_ok, Sem.run_pure, Oper.upon]
  exact ⟨_, rfl, bpS_grow (by decide) hS hb, ⟨_, rfl, fun _ => heap_alloc_new w _⟩, fun j z _ _ h => bpF_grow (by decide) h hb⟩
theorem bp_eight {ops : Array Oper} {o : Oper} (hi : ops[8]? = some o) (hgd : o.guard = none) {Q : Exit → Act → World → Prop} {L : Nat → Bool} {a : Act} {w : World} (hS : bpS gp B n P v Z u L w) (hL : L 8 = false) {y z : Operand} (ho : o.op = .call { callee := .builtin .append, args := #[y, z], argTypes := #[25, 25] }) (hy : a.eval y = v) (hz : ∃ b, a.eval z = .slice (some ⟨b, 0, none⟩) 1 1 ∧ (L 8 = false → SAt w b 36 2 (exV ⟨k, bd⟩))) (hn : n < 1000000) (hB : B ≤ u.heap.size) (hpB : gp < B) :
    wpOp Try.prog ops Q 8 (fun a' w' => ∃ val, a' = a.put o.dst val ∧ bpS gp B n P v Z u (apN 8 L) w' ∧ bpF gp B n nn v k bd rest Z u (apN 8 L) 8 val w' ∧ ∀ j z, j ≠ 8 → L j = true → bpF gp B n nn v k bd rest Z u L j z w → bpF gp B n nn v k bd rest Z u (apN 8 L) j z w') a w := by
  obtain ⟨b, hz, hb⟩ := hz
  obtain ⟨h2, h4, h5⟩ := hS
  have hD := h5 hL
  have hN8 : apN 8 L 8 = true := by unfold apN; rw [if_pos rfl]
  have h4s := h4.size
  refine wpOp_of hi hgd (wp_of_list hgd (fun Q' hQ => ?_))
  refine ap_row hgd Try.underlying25 exInfo (by decide) (by decide) ho (exV_one ⟨k, bd⟩) hy hz hD (hb hL) hn (Nat.le_trans hB h4s) (fun v' w' q1 q2 q3 => hQ _ _ ⟨v', rfl, ?_, ?_, ?_⟩)
  · have bl : ∀ k, k < w.heap.size → v.ownBlock ≠ some k → w'.heap[k]? = w.heap[k]? := fun k hk hn => q2.block k hk (fun e => hn e.symm)
    have lo : ∀ k, k < B → v.ownBlock ≠ some k := fun k hk e => by have := ownM_base hD k e; omega
    refine ⟨(bl gp (heap_lt h2) (lo gp hpB)).trans h2, ?_, fun e => by rw [hN8] at e; cases e⟩
    exact ⟨q2.os.trans h4.os, q2.tape.trans h4.tape, q2.output.trans h4.output, Nat.le_trans h4.size q2.size, fun k hk hn => (bl k (by omega) hn).trans (h4.block k hk hn)⟩
  · refine ⟨q1, fun q hq => ?_⟩
    rcases q3 q hq with e | e
    · exact .inl e
    · exact .inr (Nat.le_trans h4s e)
  · intro j z' hj _ hF
    match j, hj, hF with
    | 0, _, h => exact h
    | 1, _, h => exact h
    | 2, _, h => exact h
    | 3, _, h => exact h
    | 4, _, h => exact h
    | 5, _, h => exact h
    | 6, _, h => exact h
    | 7, _, ⟨b, e, _⟩ => exact ⟨b, e, fun e => by rw [hN8] at e; cases e⟩
    | 8, h, _ => exact absurd rfl h
    | _ + 9, _, _ => trivial
end
theorem en_exts (args : Array Value) (w : World) : (callFunc 40 args).run Try.prog w = .ok (.enter 40 args) w := by kernel_rfl
def XSt (g3 g6 : Nat) (P : Pk) (R : Rd) (u : World) (acc : List Ex) (k : Int) (rest : ByteArray) (v : Value) (Z : Nat → Nat → Value) (z : World) : Prop :=
  acc.length ≤ 4 ∧ rest.size < 4611686018427387904 ∧ SAt z g3 27 46 (pkV P v) ∧ SAt z g6 27 46 (pkV zeroP (.slice none 0 0)) ∧ z.ownsRow u.heap.size 36 2 v acc.length (rX 2 Z acc.length) ∧ (∀ j x, acc[j]? = some x → ∀ f, f < 2 → Z j f = exV x f) ∧ rdEx P (5 - acc.length) acc k rest = R ∧ Touch (fun q => q = g3) u z
theorem v6_eq (k : Int) (acc : List Ex) : ((!decide (k = 44)) && (((decide (k = 0)) && (decide (0 < ((acc.length : Nat) : Int)))) || (decide (4 ≤ ((acc.length : Nat) : Int))))) = (!decide (k = 44) && !mayB k acc.length) := by
  have e1 : decide ((4 : Int) ≤ ((acc.length : Nat) : Int)) = !decide (((acc.length : Nat) : Int) < 4) := by rw [← decide_not]; exact decide_eq_decide.2 (by omega)
  have e2 : decide ((0 : Int) < ((acc.length : Nat) : Int)) = !decide (((acc.length : Nat) : Int) = 0) := by rw [← decide_not]; exact decide_eq_decide.2 (by omega)
  rw [mayB_d, e1, e2]
  cases decide (k = 44) <;> cases decide (k = 0) <;> cases decide (((acc.length : Nat) : Int) < 4) <;> cases decide (((acc.length : Nat) : Int) = 0) <;> rfl
set_option maxHeartbeats 8000000 in
theorem rExts_run (s : ByteArray) (P : Pk) (k0 : Int) (w : World) (hs : s.size < 4611686018427387904) : Calls Try.prog 40 #[.agg (SC 46 (pkV P (.slice none 0 0))), .int .i64 k0, .string s] w fun e w' => DEnd w (rdEx P 5 [] k0 s) e w' := by
  obtain ⟨R, hR⟩ : ∃ R, rdEx P 5 [] k0 s = R := ⟨_, rfl⟩
  rw [hR]
  have HR := Hid.mk hR
  clear hR
  go_enter Try.func40, Try.ntmps40
  go_wp2_with (refine wl_boxO rfl rfl isPk (by rfl) ?_; intro g3 u1 hg3 p1 hB1; refine Hid.out ?_)
  refine Hid.mk ?_
  go_wp2_with (refine wl_alO rfl rfl zeroPk ?_; intro g6 u2 hg6 q2 hB2; refine Hid.out ?_)
  refine Hid.mk ?_
  have p2 := p1.kept hB2
  have hBa := hB1.trans (hB2.mono hB1.size)
  have l1 := heap_lt p1
  have l2 := heap_lt q2
  have l2p := heap_lt p2
  have hs2 := hBa.size
  have hg6w : w.heap.size ≤ g6 := by have := hB1.size; omega
  have hne : g6 ≠ g3 := by omega
  have HT : Hid (∀ z, Touch (fun q => q = g3) u2 z → Below w.heap.size w z) := Hid.mk (fun z t => ⟨t.os.trans hBa.os, t.tape.trans hBa.tape, t.output.trans hBa.output, Nat.le_trans hBa.size t.size, fun k hk => (t.block k (Nat.lt_of_lt_of_le hk hBa.size) (by omega)).trans (hBa.block k hk)⟩)
  have H0 : Hid (XSt g3 g6 P R u2 [] k0 s (.slice none 0 0) (fun _ _ => undef) u2) := Hid.mk ⟨by simp, hs, p2, q2, World.ownsRow_nil u2 _ _ _, fun j x h => by simp at h, HR.out, Touch.refl _ _⟩
  clear p1 p2 q2 hB1 hB2 hBa l1 HR hs
  go_wp2_with fail
  go_loopg [1, 2] 5 (fun gm s1 s2 z => ∃ (acc : List Ex) (k : Int) (rest : ByteArray) (v : Value) (Z : Nat → Nat → Value), Hid (gm = 5 - acc.length) ∧ s1 = .int .i64 k ∧ s2 = .string rest ∧ Hid (XSt g3 g6 P R u2 acc k rest v Z z))
  case atStart => exact ⟨[], k0, s, _, _, Hid.mk rfl, rfl, rfl, H0⟩
  case round =>
    obtain ⟨acc, k, rest, v, Z, HG, rfl, rfl, HS⟩ := hrel
    obtain ⟨hl, hsz, hp, hq, hown, hZ, hrd, ht⟩ := HS.out
    obtain ⟨m, hm⟩ : ∃ m, 5 - acc.length = m + 1 := ⟨4 - acc.length, by omega⟩
    rw [hm] at hrd
    have HRD := Hid.mk hrd
    have HZ := Hid.mk hZ
    have HSZ := Hid.mk hsz
    have HM := Hid.mk hm
    clear hrd hZ hsz HS
    go_wp2_with (go_at_call 34; refine (rIsExt_run _ _).mono ?_; rintro e y1 ⟨rfl, hC1⟩; refine Hid.out ?_)
    refine Hid.mk ?_
    replace hp := hp.kept hC1
    replace hq := hq.kept hC1
    replace hown := ownT_kept hown hC1
    replace ht := ht.bel hC1 ht.size
    clear hC1
    obtain ⟨ad, cap, rfl, _⟩ := ownM_shape hown
    cases hx : isHd k
    · have HE := rx_end (P := P) (m := m) (acc := acc) (rest := rest) hx
      rw [HRD.out] at HE
      replace HE := Hid.mk HE
      clear hx HRD
      go_wp2_with (first | (refine wl_value rfl (exec_fpkL 2 34 (by decide) rfl rfl (by rfl)) ?_) | (refine wl_stP rfl rfl (by rfl) (by rfl) (by decide) (stI k) hp (pk_up34 _ _ k) ?_; intro y2 p2 o2; refine Hid.out ?_))
      refine Hid.mk ?_
      go_wp2_with (first | (refine wl_value rfl (exec_fpkL 13 45 (by decide) rfl rfl (by rfl)) ?_) | (refine wl_stP rfl rfl (by rfl) (by rfl) (by decide) (stS rest) p2 (pk_up45 _ _ rest) ?_; intro y3 p3 o3; refine Hid.out ?_))
      refine Hid.mk ?_
      have q3 := (hq.only o2 hne).only o3 hne
      have t3 := (ht.tr (tou_only o2)).tr (tou_only o3)
      have ow3 := ownM_block (ownM_block hown (fun q hq => o2.block q (by have := ownM_base hown q hq; omega))) (fun q hq => o3.block q (by have := ownM_base hown q hq; omega))
      clear hp hq p2 hown ht
      go_wp2_with (first | (refine wl_value rfl (look_st rfl isPk p3 (by rfl)) ?_) | (refine st_stO rfl rfl isPk (fun i => pkV_one rfl i) q3 (by rfl) (by rfl) ?_; intro y4 q4 o4; refine Hid.out ?_))
      refine Hid.mk ?_
      go_wp2_with fail
      exact bodyPost_ret (res_ct rfl isPk q4 (by rfl) (by rfl)) rfl ⟨(HT.out _ t3).trans (o4.below hg6w), { P with exts := acc, proto := k, pay := rest }, _, 0, rfl, .inr ⟨Z, HE.out, rfl, ownM_mono (ownM_block ow3 (fun q hq => o4.block q (by have := ownM_base ow3 q hq; omega))) hs2, HZ.out⟩⟩
    · have HX := Hid.mk hx
      clear hx
      go_upto_region 6 with fail
      refine wp_plain_steps (Below y1.heap.size y1) (fun v v' => Below v.heap.size v v') (fun j vv _ => vv = ([.int .i64 k, .bool (!decide (k = 44)), .bool (!decide (k = 44)), gv (!decide (k = 44)) (.int .i64 k), gv (!decide (k = 44)) (.bool (decide (k = 0))), gv (!decide (k = 44)) (.bool (decide (k = 0))), gv ((!decide (k = 44)) && (decide (k = 0))) (.pointer (some ⟨g3, 43, none⟩)), gv ((!decide (k = 44)) && (decide (k = 0))) (.slice ad acc.length cap), gv ((!decide (k = 44)) && (decide (k = 0))) (.int .i64 ((acc.length : Nat) : Int)), gv ((!decide (k = 44)) && (decide (k = 0))) (.bool (decide (0 < ((acc.length : Nat) : Int)))), gv (!decide (k = 44)) (.bool ((decide (k = 0)) && (decide (0 < ((acc.length : Nat) : Int))))), gv (!decide (k = 44)) (.bool ((decide (k = 0)) && (decide (0 < ((acc.length : Nat) : Int))))), gv ((!decide (k = 44)) && (!((decide (k = 0)) && (decide (0 < ((acc.length : Nat) : Int)))))) (.pointer (some ⟨g3, 43, none⟩)), gv ((!decide (k = 44)) && (!((decide (k = 0)) && (decide (0 < ((acc.length : Nat) : Int)))))) (.slice ad acc.length cap), gv ((!decide (k = 44)) && (!((decide (k = 0)) && (decide (0 < ((acc.length : Nat) : Int)))))) (.int .i64 ((acc.length : Nat) : Int)), gv ((!decide (k = 44)) && (!((decide (k = 0)) && (decide (0 < ((acc.length : Nat) : Int)))))) (.bool (decide (4 ≤ ((acc.length : Nat) : Int)))), gv (!decide (k = 44)) (.bool (((decide (k = 0)) && (decide (0 < ((acc.length : Nat) : Int)))) || (decide (4 ≤ ((acc.length : Nat) : Int))))), .bool ((!decide (k = 44)) && (((decide (k = 0)) && (decide (0 < ((acc.length : Nat) : Int)))) || (decide (4 ≤ ((acc.length : Nat) : Int)))))] : List Value).getD j undef)
          [22, 23, 24, 25, 26, 27, 28, 29, 30, 31, 32, 33, 34, 35, 36, 37, 38, 39]
          [(1, .int .i64 k), (3, .pointer (some ⟨g3, 0, none⟩))] [] 0
          [[], [0], [1], [2], [2, 3], [2, 4], [5], [5, 6], [5, 7], [5, 8], [2, 5, 9], [2, 10], [11], [11, 12], [11, 13], [11, 14], [2, 11, 15], [2, 16]]
          (by kernel_rfl) ⟨rfl, rfl, trivial⟩ trivial (Below.refl _ _) (fun v v' h hb => h.trans (hb.mono h.size)) (fun _ _ _ _ h _ => h)
          ⟨
          (fun QQ aa ww hS fr kn => sg0 rfl (fun K hK => wp_value (exec_move rfl fr.1) (hK _ _ rfl (Below.refl _ _)))),
          (fun QQ aa ww hS fr kn => sg0 rfl (fun K hK => wp_value (cmp_ne (m := k) (n := 44) rfl kn.1 rfl) (hK _ _ rfl (Below.refl _ _)))),
          (fun QQ aa ww hS fr kn => sg0 rfl (fun K hK => wp_value (exec_move rfl kn.1) (hK _ _ rfl (Below.refl _ _)))),
          (fun QQ aa ww hS fr kn => sgT rfl kn.1 (fun hc K hK => wp_value (exec_move rfl fr.1) (hK _ _ (gv_t hc).symm (Below.refl _ _))) (fun h0 => (gv_f h0).symm)),
          (fun QQ aa ww hS fr kn => sgT rfl kn.1 (fun hc K hK => wp_value (cmp_eq (m := k) (n := 0) rfl (kn.2.1.trans (gv_t hc)) rfl) (hK _ _ (gv_t hc).symm (Below.refl _ _))) (fun h0 => (gv_f h0).symm)),
          (fun QQ aa ww hS fr kn => sgT rfl kn.1 (fun hc K hK => wp_value (exec_move rfl (kn.2.1.trans (gv_t hc))) (hK _ _ (gv_t hc).symm (Below.refl _ _))) (fun h0 => (gv_f h0).symm)),
          (fun QQ aa ww hS fr kn => sgTT rfl kn.1 (fun hc K hK => wp_value (exec_fpk 11 (by decide) rfl fr.2.1) (hK _ _ (gv_t hc).symm (Below.refl _ _))) (fun h0 => (gv_f h0).symm)),
          (fun QQ aa ww hS fr kn => sgTT rfl kn.1 (fun hc K hK => wp_value (exec_ld rfl (kn.2.1.trans (gv_t hc)) (ldPx (pk_exts (SAt.kept hp hS)))) (hK _ _ (gv_t hc).symm (Below.refl _ _))) (fun h0 => (gv_f h0).symm)),
          (fun QQ aa ww hS fr kn => sgTT rfl kn.1 (fun hc K hK => wp_value (exec_lenX rfl (kn.2.1.trans (gv_t hc))) (hK _ _ (gv_t hc).symm (Below.refl _ _))) (fun h0 => (gv_f h0).symm)),
          (fun QQ aa ww hS fr kn => sgTT rfl kn.1 (fun hc K hK => wp_value (cmp_gt (m := ((acc.length : Nat) : Int)) (n := 0) rfl (kn.2.1.trans (gv_t hc)) rfl) (hK _ _ (gv_t hc).symm (Below.refl _ _))) (fun h0 => (gv_f h0).symm)),
          (fun QQ aa ww hS fr kn => sgT rfl kn.1 (fun hc K hK => wp_value (exec_pickAnd rfl (kn.2.1.trans (gv_t hc)) (fun hx => kn.2.2.1.trans (gv_t (an_t hc hx))) rfl) (hK _ _ (gv_t hc).symm (Below.refl _ _))) (fun h0 => (gv_f h0).symm)),
          (fun QQ aa ww hS fr kn => sgT rfl kn.1 (fun hc K hK => wp_value (exec_move rfl (kn.2.1.trans (gv_t hc))) (hK _ _ (gv_t hc).symm (Below.refl _ _))) (fun h0 => (gv_f h0).symm)),
          (fun QQ aa ww hS fr kn => sgTF rfl kn.1 (fun hc K hK => wp_value (exec_fpk 11 (by decide) rfl fr.2.1) (hK _ _ (gv_t hc).symm (Below.refl _ _))) (fun h0 => (gv_f h0).symm)),
          (fun QQ aa ww hS fr kn => sgTF rfl kn.1 (fun hc K hK => wp_value (exec_ld rfl (kn.2.1.trans (gv_t hc)) (ldPx (pk_exts (SAt.kept hp hS)))) (hK _ _ (gv_t hc).symm (Below.refl _ _))) (fun h0 => (gv_f h0).symm)),
          (fun QQ aa ww hS fr kn => sgTF rfl kn.1 (fun hc K hK => wp_value (exec_lenX rfl (kn.2.1.trans (gv_t hc))) (hK _ _ (gv_t hc).symm (Below.refl _ _))) (fun h0 => (gv_f h0).symm)),
          (fun QQ aa ww hS fr kn => sgTF rfl kn.1 (fun hc K hK => wp_value (cmp_ge (m := ((acc.length : Nat) : Int)) (n := 4) rfl (kn.2.1.trans (gv_t hc)) rfl) (hK _ _ (gv_t hc).symm (Below.refl _ _))) (fun h0 => (gv_f h0).symm)),
          (fun QQ aa ww hS fr kn => sgT rfl kn.1 (fun hc K hK => wp_value (exec_pickOr rfl (kn.2.1.trans (gv_t hc)) rfl (fun hx => kn.2.2.1.trans (gv_t (an_t hc (nt_t hx))))) (hK _ _ (gv_t hc).symm (Below.refl _ _))) (fun h0 => (gv_f h0).symm)),
          (fun QQ aa ww hS fr kn => sg0 rfl (fun K hK => wp_value (exec_pickAnd rfl kn.1 (fun hx => kn.2.1.trans (gv_t hx)) rfl) (hK _ _ rfl (Below.refl _ _)))),
          trivial⟩ ?_
      intro vs y2 hC2 kn
      have e39 : vs 39 = .bool ((!decide (k = 44)) && (((decide (k = 0)) && (decide (0 < ((acc.length : Nat) : Int)))) || (decide (4 ≤ ((acc.length : Nat) : Int))))) := kn 17 (by decide)
      clear kn
      simp only [putAll, Act.put, List.setIfInBounds_toArray, List.set_cons_zero, List.set_cons_succ, e39]
      clear e39
      rw [v6_eq]
      replace hp := hp.kept hC2
      replace hq := hq.kept hC2
      replace hown := ownT_kept hown hC2
      replace ht := ht.bel hC2 ht.size
      clear hC2
      rcases Bool.eq_false_or_eq_true (!decide (k = 44) && !mayB k acc.length) with hc | hc
      · rw [hc]
        simp only [Bool.and_eq_true, Bool.not_eq_true', decide_eq_false_iff_not] at hc
        have HE : Hid (R = .err 74) := Hid.mk (by
          rw [← HRD.out]
          refine rx_may ?_ hc.2
          have := isHd_iff.1 HX.out
          exact isEx_iff.2 (by omega))
        clear hc
        go_wp2_with (first | (refine wl_value rfl (exec_pk0 rfl) ?_) | (refine st_stO rfl rfl isPk (fun i => pkV_one rfl i) hq (by rfl) (by rfl) ?_; intro u90 q90 o90; refine Hid.out ?_))
        refine Hid.mk ?_
        go_wp2_with fail
        exact bodyPost_ret (res_ct rfl isPk q90 (by rfl) (by rfl)) rfl ⟨(HT.out _ ht).trans (o90.below hg6w), zeroP, _, 74, rfl, .inl ⟨HE.out, rfl, rfl⟩⟩
      rw [hc]
      have HC6 : Hid (k = 44 ∨ mayB k acc.length = true) := Hid.mk (by
        simp only [Bool.and_eq_false_iff, Bool.not_eq_false', decide_eq_true_eq] at hc
        exact hc)
      clear hc
      by_cases h8 : rest.size < 8
      · have HE : Hid (R = .err 72) := Hid.mk (by rw [← HRD.out]; exact rx_short HX.out HC6.out h8)
        have h8i : (rest.size : Int) < 8 := by omega
        go_wp2_with (first | (refine wl_value rfl (exec_pk0 rfl) ?_) | (refine st_stO rfl rfl isPk (fun i => pkV_one rfl i) hq (by rfl) (by rfl) ?_; intro u90 q90 o90; refine Hid.out ?_))
        refine Hid.mk ?_
        go_wp2_with fail
        exact bodyPost_ret (res_ct rfl isPk q90 (by rfl) (by rfl)) rfl ⟨(HT.out _ ht).trans (o90.below hg6w), zeroP, _, 72, rfl, .inl ⟨HE.out, rfl, rfl⟩⟩
      have h8i : ¬ (rest.size : Int) < 8 := by omega
      have hsz := HSZ.out
      have HN0 : Hid (∀ ww, Calls Try.prog 38 #[.string rest, .int .i64 0, .int .i64 1] ww fun e w' => e = .returned (.int .i64 (txt rest 0)) ∧ Below ww.heap.size ww w') := Hid.mk (fun ww => by
        have := rnum_run rest 0 1 ww (by omega) (by decide) (by decide) (by omega)
        rw [getN_one, Int.toNat_of_nonneg (txt_b rest 0).1] at this
        exact this)
      have HZ1 : Hid (1 < rest.size) := Hid.mk (by omega)
      have H8 : Hid (8 ≤ rest.size) := Hid.mk (by omega)
      clear hsz
      by_cases h44 : k = 44
      · subst h44
        have hsz := HSZ.out
        have HN2 : Hid (∀ ww, Calls Try.prog 38 #[.string rest, .int .i64 2, .int .i64 2] ww fun e w' => e = .returned (.int .i64 ((getN (txt rest) 2 2 : Nat) : Int)) ∧ Below ww.heap.size ww w') := Hid.mk (fun ww => by
          have := rnum_run rest 2 2 ww (by omega) (by decide) (by decide) (by omega)
          exact this)
        have HN4 : Hid (∀ ww, Calls Try.prog 38 #[.string rest, .int .i64 4, .int .i64 4] ww fun e w' => e = .returned (.int .i64 ((getN (txt rest) 4 4 : Nat) : Int)) ∧ Below ww.heap.size ww w') := Hid.mk (fun ww => by
          have := rnum_run rest 4 4 ww (by omega) (by decide) (by decide) (by omega)
          exact this)
        have HSL : Hid (∀ ww, (Instr.sliceAt 9 (.string rest) (some (.int .i64 8)) none none).run Try.prog ww = .ok (.string (rest.extract 8 rest.size)) ww) := Hid.mk (fun ww => strL rest 8 ww (by omega))
        have HBAD : Hid ((txt rest 1 ≠ 0 ∨ getN (txt rest) 2 2 % 8 / 2 ≠ 0 ∨ isHd (txt rest 0) = true) → R = .err 74) := Hid.mk (fun hb => by rw [← HRD.out]; exact rx_bad (by omega) hb)
        have HCUT : Hid (¬ (txt rest 1 ≠ 0 ∨ getN (txt rest) 2 2 % 8 / 2 ≠ 0 ∨ isHd (txt rest 0) = true) → R = .ok { P with exts := acc, cut := true, off := ((getN (txt rest) 2 2 / 8 * 8 : Nat) : Int), more := decide (getN (txt rest) 2 2 % 2 = 1), id := (getN (txt rest) 4 4 : Int), proto := txt rest 0, pay := rest.extract 8 rest.size }) := Hid.mk (fun hb => by rw [← HRD.out]; exact rx_cut (by omega) hb)
        have hG2 : getN (txt rest) 2 2 < 65536 := getN_lt2 rest 2
        have HT1 : Hid (∃ T1, txt rest 1 = T1) := Hid.mk ⟨_, rfl⟩
        obtain ⟨T1, hT1⟩ := HT1.out
        replace HT1 := Hid.mk hT1
        rw [hT1] at HBAD HCUT
        clear hT1 HRD HC6 HX hsz h8
        generalize rest.extract 8 rest.size = PY at *
        generalize getN (txt rest) 2 2 = G2 at *
        generalize getN (txt rest) 4 4 = G4 at *
        generalize txt rest 0 = K1 at *
        go_wp2_with (go_at_call 38; refine (HN0.out _).mono ?_; rintro e y3 ⟨rfl, hC3⟩; refine Hid.out ?_)
        refine Hid.mk ?_
        go_wp2_with (go_at_call 38; refine (HN2.out _).mono ?_; rintro e y4 ⟨rfl, hC4⟩; refine Hid.out ?_)
        refine Hid.mk ?_
        obtain ⟨AG, hAG⟩ : ∃ AG, isHd K1 = AG := ⟨_, rfl⟩
        have HXX := Hid.mk (fun ww => rIsExt_run K1 ww)
        rw [hAG] at HXX HBAD HCUT
        clear hAG
        go_wp2_with (go_at_call 34; refine (HXX.out _).mono ?_; rintro e y5 ⟨rfl, hC5⟩; refine Hid.out ?_)
        refine Hid.mk ?_
        replace hp := ((hp.kept hC3).kept hC4).kept hC5
        replace hq := ((hq.kept hC3).kept hC4).kept hC5
        replace hown := ownT_kept (ownT_kept (ownT_kept hown hC3) hC4) hC5
        replace ht := ht.bel hC3 ht.size
        replace ht := ht.bel hC4 ht.size
        replace ht := ht.bel hC5 ht.size
        clear hC3 hC4 hC5 HN0 HN2 HXX
        go_upto_region 14 with fail
        refine wp_plain_steps (Below y5.heap.size y5) (fun v v' => Below v.heap.size v v') (fun j vv _ => vv = ([.string rest, .int .u8 T1, .bool (!decide (T1 = 0)), .bool (!decide (T1 = 0)), gv (!(!decide (T1 = 0))) (.int .i64 ((G2 : Nat) : Int)), gv (!(!decide (T1 = 0))) (.int .i64 ((G2 % 8 : Nat) : Int)), gv (!(!decide (T1 = 0))) (.int .i64 ((G2 % 8 / 2 : Nat) : Int)), gv (!(!decide (T1 = 0))) (.bool (!decide (((G2 % 8 / 2 : Nat) : Int) = 0))), .bool ((!decide (T1 = 0)) || (!decide (((G2 % 8 / 2 : Nat) : Int) = 0))), .bool ((!decide (T1 = 0)) || (!decide (((G2 % 8 / 2 : Nat) : Int) = 0))), gv (!((!decide (T1 = 0)) || (!decide (((G2 % 8 / 2 : Nat) : Int) = 0)))) (.bool AG), .bool (((!decide (T1 = 0)) || (!decide (((G2 % 8 / 2 : Nat) : Int) = 0))) || AG)] : List Value).getD j undef)
            [53, 54, 55, 56, 57, 58, 59, 60, 61, 62, 63, 64]
            [(2, .string rest), (10, .int .i64 ((G2 : Nat) : Int)), (11, .bool AG)] [] 0
            [[], [0], [1], [2], [3], [3, 4], [3, 5], [3, 6], [3, 7], [8], [9], [9, 10]]
            (by kernel_rfl) ⟨rfl, rfl, rfl, trivial⟩ trivial (Below.refl _ _) (fun v v' h hb => h.trans (hb.mono h.size)) (fun _ _ _ _ h _ => h)
            ⟨
            (fun QQ aa ww hS fr kn => sg0 rfl (fun K hK => wp_value (exec_move rfl fr.1) (hK _ _ rfl (Below.refl _ _)))),
            (fun QQ aa ww hS fr kn => sg0 rfl (fun K hK => wp_value (exec_ixv (j := 1) rfl kn.1 rfl HZ1.out HT1.out) (hK _ _ rfl (Below.refl _ _)))),
            (fun QQ aa ww hS fr kn => sg0 rfl (fun K hK => wp_value (cmp_ne8 (m := T1) (n := 0) rfl kn.1 rfl) (hK _ _ rfl (Below.refl _ _)))),
            (fun QQ aa ww hS fr kn => sg0 rfl (fun K hK => wp_value (exec_move rfl kn.1) (hK _ _ rfl (Below.refl _ _)))),
            (fun QQ aa ww hS fr kn => sgF rfl kn.1 (fun hng K hK => have hc := nt_t hng; wp_value (exec_move rfl fr.2.1) (hK _ _ (gv_t hc).symm (Below.refl _ _))) (fun h0 => (gv_f (nt_f h0)).symm)),
            (fun QQ aa ww hS fr kn => sgF rfl kn.1 (fun hng K hK => have hc := nt_t hng; wp_value (exec_remW (i := G2) (m := 8) rfl (kn.2.1.trans (gv_t hc)) rfl rfl (by decide)) (hK _ _ (gv_t hc).symm (Below.refl _ _))) (fun h0 => (gv_f (nt_f h0)).symm)),
            (fun QQ aa ww hS fr kn => sgF rfl kn.1 (fun hng K hK => have hc := nt_t hng; wp_value (exec_quoW (i := G2 % 8) (m := 2) rfl (kn.2.1.trans (gv_t hc)) rfl rfl (by decide) (by omega)) (hK _ _ (gv_t hc).symm (Below.refl _ _))) (fun h0 => (gv_f (nt_f h0)).symm)),
            (fun QQ aa ww hS fr kn => sgF rfl kn.1 (fun hng K hK => have hc := nt_t hng; wp_value (cmp_ne (m := ((G2 % 8 / 2 : Nat) : Int)) (n := 0) rfl (kn.2.1.trans (gv_t hc)) rfl) (hK _ _ (gv_t hc).symm (Below.refl _ _))) (fun h0 => (gv_f (nt_f h0)).symm)),
            (fun QQ aa ww hS fr kn => sg0 rfl (fun K hK => wp_value (exec_pickOr rfl kn.1 rfl (fun hx => kn.2.1.trans (gv_t (nt_t hx)))) (hK _ _ rfl (Below.refl _ _)))),
            (fun QQ aa ww hS fr kn => sg0 rfl (fun K hK => wp_value (exec_move rfl kn.1) (hK _ _ rfl (Below.refl _ _)))),
            (fun QQ aa ww hS fr kn => sgF rfl kn.1 (fun hng K hK => have hc := nt_t hng; wp_value (exec_move rfl fr.2.2.1) (hK _ _ (gv_t hc).symm (Below.refl _ _))) (fun h0 => (gv_f (nt_f h0)).symm)),
            (fun QQ aa ww hS fr kn => sg0 rfl (fun K hK => wp_value (exec_pickOr rfl kn.1 rfl (fun hx => kn.2.1.trans (gv_t (nt_t hx)))) (hK _ _ rfl (Below.refl _ _)))),
            trivial⟩ ?_
        intro vs y6 hC6 kn
        have e64 : vs 64 = .bool (((!decide (T1 = 0)) || (!decide (((G2 % 8 / 2 : Nat) : Int) = 0))) || AG) := kn 11 (by decide)
        clear kn
        simp only [putAll, Act.put, List.setIfInBounds_toArray, List.set_cons_zero, List.set_cons_succ, e64]
        clear e64
        replace hp := hp.kept hC6
        replace hq := hq.kept hC6
        replace hown := ownT_kept hown hC6
        replace ht := ht.bel hC6 ht.size
        clear hC6
        rcases Bool.eq_false_or_eq_true (((!decide (T1 = 0)) || (!decide (((G2 % 8 / 2 : Nat) : Int) = 0))) || AG) with hc | hc
        · rw [hc]
          simp only [Bool.or_eq_true, Bool.not_eq_true', decide_eq_false_iff_not] at hc
          have HE : Hid (R = .err 74) := Hid.mk (HBAD.out (by
            rcases hc with (e | e) | e
            · exact .inl e
            · exact .inr (.inl (by omega))
            · exact .inr (.inr e)))
          clear hc
          go_wp2_with (first | (refine wl_value rfl (exec_pk0 rfl) ?_) | (refine st_stO rfl rfl isPk (fun i => pkV_one rfl i) hq (by rfl) (by rfl) ?_; intro u90 q90 o90; refine Hid.out ?_))
          refine Hid.mk ?_
          go_wp2_with fail
          exact bodyPost_ret (res_ct rfl isPk q90 (by rfl) (by rfl)) rfl ⟨(HT.out _ ht).trans (o90.below hg6w), zeroP, _, 74, rfl, .inl ⟨HE.out, rfl, rfl⟩⟩
        rw [hc]
        simp only [Bool.or_eq_false_iff, Bool.not_eq_false', decide_eq_true_eq] at hc
        have HE : Hid (R = .ok _) := Hid.mk (HCUT.out (by
          obtain ⟨⟨e1, e2⟩, e3⟩ := hc
          rintro (e | e | e)
          · exact e e1
          · exact e (by omega)
          · rw [e3] at e; cases e))
        clear hc HBAD HCUT
        obtain ⟨GO, hGO⟩ : ∃ GO, G2 / 8 * 8 = GO := ⟨_, rfl⟩
        obtain ⟨GQ, hGQ⟩ : ∃ GQ, G2 / 8 = GQ := ⟨_, rfl⟩
        obtain ⟨GM, hGM⟩ : ∃ GM, G2 % 2 = GM := ⟨_, rfl⟩
        rw [hGO, hGM] at HE
        rw [hGQ] at hGO
        have HGO := Hid.mk hGO
        have HGQ := Hid.mk hGQ
        have HGM := Hid.mk hGM
        have hGO2 : GO < 65536 := by omega
        clear hGO hGQ hGM
        have hB : decide ((GM : Int) = 1) = decide (GM = 1) := decide_eq_decide.2 (by omega)
        have HBM := Hid.mk hB
        clear hB
        go_wp2_with (first | (refine wl_value rfl (exec_fpkL 12 44 (by decide) rfl rfl (by rfl)) ?_) | (refine wl_stP rfl rfl (by rfl) (by rfl) (by decide) (stB true) hp (pk_up44 _ _ true) ?_; intro z1 p1 o1; refine Hid.out ?_))
        refine Hid.mk ?_
        go_wp2_with (first | (refine wl_value rfl (exec_quoW (i := G2) (m := 8) (q := GQ) rfl (by rfl) (by rfl) HGQ.out (by decide) (by omega)) ?_) | (refine wl_value rfl (exec_mulW (i := GQ) (m := 8) (q := GO) rfl (by rfl) (by rfl) HGO.out (by omega)) ?_) | (refine wl_value rfl (exec_fpkL 6 38 (by decide) rfl rfl (by rfl)) ?_) | (refine wl_stP rfl rfl (by rfl) (by rfl) (by decide) (stI (GO : Int)) p1 (pk_up38 _ _ (GO : Int)) ?_; intro z2 p2 o2; refine Hid.out ?_))
        refine Hid.mk ?_
        go_wp2_with (first | (refine wl_value rfl (exec_remW (i := G2) (m := 2) (q := GM) rfl (by rfl) (by rfl) HGM.out (by decide)) ?_) | (refine wl_value rfl (cmp_eq (m := (GM : Int)) (n := 1) rfl (by rfl) (by rfl)) ?_) | (refine wl_value rfl (exec_fpkL 7 39 (by decide) rfl rfl (by rfl)) ?_) | (refine wl_stP rfl rfl (by rfl) (by rfl) (by decide) (stB (decide ((GM : Int) = 1))) p2 (pk_up39 _ _ (decide ((GM : Int) = 1))) ?_; intro z3 p3 o3; refine Hid.out ?_))
        refine Hid.mk ?_
        have t3 := ((ht.tr (tou_only o1)).tr (tou_only o2)).tr (tou_only o3)
        have q3 := ((hq.only o1 hne).only o2 hne).only o3 hne
        have lo : ∀ q, (Value.slice ad acc.length cap).ownBlock = some q → q ≠ g3 := fun q hq => by have := ownM_base hown q hq; omega
        have ow3 := ownM_block (ownM_block (ownM_block hown (fun q hq => o1.block q (lo q hq))) (fun q hq => o2.block q (lo q hq))) (fun q hq => o3.block q (lo q hq))
        clear hp hq hown ht p1 p2 o1 o2 o3
        go_wp2_with (go_at_call 38; refine (HN4.out _).mono ?_; rintro e z4 ⟨rfl, hC7⟩; refine Hid.out ?_)
        refine Hid.mk ?_
        replace p3 := p3.kept hC7
        replace q3 := q3.kept hC7
        replace ow3 := ownT_kept ow3 hC7
        replace t3 := t3.bel hC7 t3.size
        clear hC7
        go_wp2_with (first | (refine wl_value rfl (exec_fpkL 5 37 (by decide) rfl rfl (by rfl)) ?_) | (refine wl_stP rfl rfl (by rfl) (by rfl) (by decide) (stI (G4 : Int)) p3 (pk_up37 _ _ (G4 : Int)) ?_; intro z5 p5 o5; refine Hid.out ?_))
        refine Hid.mk ?_
        go_wp2_with (first | (refine wl_value rfl (exec_fpkL 2 34 (by decide) rfl rfl (by rfl)) ?_) | (refine wl_stP rfl rfl (by rfl) (by rfl) (by decide) (stI K1) p5 (pk_up34 _ _ K1) ?_; intro z6 p6 o6; refine Hid.out ?_))
        refine Hid.mk ?_
        go_wp2_with (first | (refine wl_value rfl (exec_slL (u := .int .i64 8) rfl (by rfl) (by rfl) (HSL.out _)) ?_) | (refine wl_value rfl (exec_fpkL 13 45 (by decide) rfl rfl (by rfl)) ?_) | (refine wl_stP rfl rfl (by rfl) (by rfl) (by decide) (stS PY) p6 (pk_up45 _ _ PY) ?_; intro z7 p7 o7; refine Hid.out ?_))
        refine Hid.mk ?_
        have t7 := ((t3.tr (tou_only o5)).tr (tou_only o6)).tr (tou_only o7)
        have q7 := ((q3.only o5 hne).only o6 hne).only o7 hne
        have ow7 := ownM_block (ownM_block (ownM_block ow3 (fun q hq => o5.block q (lo q hq))) (fun q hq => o6.block q (lo q hq))) (fun q hq => o7.block q (lo q hq))
        clear p3 q3 ow3 t3 p5 p6 o5 o6 o7
        go_wp2_with (first | (refine wl_value rfl (look_st rfl isPk p7 (by rfl)) ?_) | (refine st_stO rfl rfl isPk (fun i => pkV_one rfl i) q7 (by rfl) (by rfl) ?_; intro z8 q8 o8; refine Hid.out ?_))
        refine Hid.mk ?_
        rw [HBM.out] at q8
        go_wp2_with fail
        exact bodyPost_ret (res_ct rfl isPk q8 (by rfl) (by rfl)) rfl ⟨(HT.out _ t7).trans (o8.below hg6w), { P with exts := acc, cut := true, off := (GO : Int), more := decide (GM = 1), id := (G4 : Int), proto := K1, pay := PY }, _, 0, rfl, .inr ⟨Z, HE.out, rfl, ownM_mono (ownM_block ow7 (fun q hq => o8.block q (by have := ownM_base ow7 q hq; omega))) hs2, HZ.out⟩⟩
      · have hmay : mayB k acc.length = true := by
          rcases HC6.out with e | e
          · exact absurd e h44
          · exact e
        have hex : isEx k = true := by
          have := isHd_iff.1 HX.out
          exact isEx_iff.2 (by omega)
        have h44b : (k == 44) = false := beq_false_of_ne h44
        have hl4 : acc.length < 4 := (mayB_iff.1 hmay).1
        have HMY := Hid.mk hmay
        have HEX := Hid.mk hex
        have hsz := HSZ.out
        have HN1 : Hid (∀ ww, Calls Try.prog 38 #[.string rest, .int .i64 1, .int .i64 1] ww fun e w' => e = .returned (.int .i64 (((txt rest 1).toNat : Nat) : Int)) ∧ Below ww.heap.size ww w') := Hid.mk (fun ww => by
          have := rnum_run rest 1 1 ww (by omega) (by decide) (by decide) (by omega)
          rw [getN_one] at this
          exact this)
        have hb1 : (txt rest 1).toNat < 256 := (txt_n rest 1).2
        obtain ⟨N1, hN1⟩ : ∃ N1, (txt rest 1).toNat + 1 = N1 := ⟨_, rfl⟩
        obtain ⟨N8, hN8⟩ : ∃ N8, N1 * 8 = N8 := ⟨_, rfl⟩
        have HEN : Hid (((txt rest 1).toNat + 1) * 8 = N8) := Hid.mk (by rw [hN1, hN8])
        have HN18 := Hid.mk hN8
        have hN8l : N8 ≤ 2048 := by omega
        have hN8g : 8 ≤ N8 := by omega
        have hN1l : N1 ≤ 256 := by omega
        obtain ⟨T1, hT1⟩ : ∃ T1, (txt rest 1).toNat = T1 := ⟨_, rfl⟩
        rw [hT1] at HN1 hN1
        have HTN := Hid.mk hN1
        have hT1l : T1 < 256 := by omega
        clear hN1 hN8 hb1 hsz hmay hex h44 hT1 HC6 HX
        go_wp2_with (go_at_call 38; refine (HN0.out _).mono ?_; rintro e y3 ⟨rfl, hC3⟩; refine Hid.out ?_)
        refine Hid.mk ?_
        go_wp2_with (go_at_call 38; refine (HN1.out _).mono ?_; rintro e y4 ⟨rfl, hC4⟩; refine Hid.out ?_)
        refine Hid.mk ?_
        replace hp := (hp.kept hC3).kept hC4
        replace hq := (hq.kept hC3).kept hC4
        replace hown := ownT_kept (ownT_kept hown hC3) hC4
        replace ht := ht.bel hC3 ht.size
        replace ht := ht.bel hC4 ht.size
        clear hC3 hC4 HN0 HN1
        by_cases hlg : rest.size < N8
        · have HE : Hid (R = .err 72) := Hid.mk (by rw [← HRD.out]; exact rx_long HEX.out HMY.out H8.out (by rw [HEN.out]; exact hlg))
          have hlgi : (rest.size : Int) < (N8 : Int) := by omega
          go_wp2_with (first | (refine wl_value rfl (exec_addW (i := T1) (m := 1) (q := N1) rfl (by rfl) (by rfl) HTN.out (by omega)) ?_) | (refine wl_value rfl (exec_mulW (i := N1) (m := 8) (q := N8) rfl (by rfl) (by rfl) HN18.out (by omega)) ?_) | (refine wl_value rfl (exec_pk0 rfl) ?_) | (refine st_stO rfl rfl isPk (fun i => pkV_one rfl i) hq (by rfl) (by rfl) ?_; intro u90 q90 o90; refine Hid.out ?_))
          refine Hid.mk ?_
          go_wp2_with fail
          exact bodyPost_ret (res_ct rfl isPk q90 (by rfl) (by rfl)) rfl ⟨(HT.out _ ht).trans (o90.below hg6w), zeroP, _, 72, rfl, .inl ⟨HE.out, rfl, rfl⟩⟩
        · have hlgi : ¬ (rest.size : Int) < (N8 : Int) := by omega
          have HE := rx_ext (P := P) (m := m) HEX.out HMY.out H8.out (by rw [HEN.out]; omega)
          rw [HRD.out, HEN.out] at HE
          replace HE := Hid.mk HE
          have HSB : Hid (∀ ww, (Instr.sliceAt 9 (.string rest) (some (.int .i64 2)) (some (.int .i64 (N8 : Int))) none).run Try.prog ww = .ok (.string (rest.extract 2 N8)) ww) := Hid.mk (fun ww => cutLH rest 2 N8 ww (by omega) (by omega))
          have HSR : Hid (∀ ww, (Instr.sliceAt 9 (.string rest) (some (.int .i64 (N8 : Int))) none none).run Try.prog ww = .ok (.string (rest.extract N8 rest.size)) ww) := Hid.mk (fun ww => strL rest N8 ww (by omega))
          have HSS : Hid ((rest.extract N8 rest.size).size < 4611686018427387904) := Hid.mk (by rw [cutP_size rest _ _ (Nat.le_refl _)]; have := HSZ.out; omega)
          clear HRD HEN
          generalize rest.extract N8 rest.size = rest2 at *
          generalize rest.extract 2 N8 = bd at *
          generalize txt rest 0 = k2 at *
          have hpl : g3 < u2.heap.size := l2p
          have hw2 := ht.size
          have HPP := Hid.mk hp
          go_upto_region 26 with (first | (refine wl_value rfl (exec_addW (i := T1) (m := 1) (q := N1) rfl (by rfl) (by rfl) HTN.out (by omega)) ?_) | (refine wl_value rfl (exec_mulW (i := N1) (m := 8) (q := N8) rfl (by rfl) (by rfl) HN18.out (by omega)) ?_))
          refine wp_region_cut 9 rfl (by kernel_rfl) (any_invW (bpS g3 u2.heap.size acc.length P (.slice ad acc.length cap) Z y4) (bpF g3 u2.heap.size acc.length N8 (.slice ad acc.length cap) k bd rest Z y4) (by kernel_rfl) ⟨hp, (Touch.refl _ _).drew, fun _ => hown⟩ (bp_all ⟨
              fun Q L a w hS hL hpr f1 f2 f3 f12 kn => bp_value rfl rfl (by decide) hS (exec_fpkL 11 43 (by decide) rfl rfl f3) (fun M => rfl),
              fun Q L a w hS hL hpr f1 f2 f3 f12 kn => bp_value rfl rfl (by decide) hS (exec_ld rfl (kn 0 _ 93 rfl rfl (hpr 0 (by kernel_rfl))) (ldPx (pk_exts hS.1))) (fun M => rfl),
              fun Q L a w hS hL hpr f1 f2 f3 f12 kn => bp_value rfl rfl (by decide) hS (exec_move rfl f1) (fun M => rfl),
              fun Q L a w hS hL hpr f1 f2 f3 f12 kn => bp_value rfl rfl (by decide) hS (exec_move rfl f2) (fun M => rfl),
              fun Q L a w hS hL hpr f1 f2 f3 f12 kn => bp_value rfl rfl (by decide) hS (exec_move rfl f12) (fun M => rfl),
              fun Q L a w hS hL hpr f1 f2 f3 f12 kn => bp_value rfl rfl (by decide) hS (exec_slLH (u := .int .i64 2) (u' := .int .i64 (N8 : Int)) rfl (kn 3 _ 96 rfl rfl (hpr 3 (by kernel_rfl))) rfl (kn 4 _ 97 rfl rfl (hpr 4 (by kernel_rfl))) (HSB.out w)) (fun M => rfl),
              fun Q L a w hS hL hpr f1 f2 f3 f12 kn => bp_value rfl rfl (by decide) hS (exec_bdE rfl (kn 2 _ 95 rfl rfl (hpr 2 (by kernel_rfl))) (kn 5 _ 98 rfl rfl (hpr 5 (by kernel_rfl)))) (fun M => rfl),
              fun Q L a w hS hL hpr f1 f2 f3 f12 kn => bp_seven rfl rfl hS rfl (kn 6 _ 99 rfl rfl (hpr 6 (by kernel_rfl))),
              fun Q L a w hS hL hpr f1 f2 f3 f12 kn => bp_eight rfl rfl hS hL rfl (kn 1 _ 94 rfl rfl (hpr 1 (by kernel_rfl))) (kn 7 _ 100 rfl rfl (hpr 7 (by kernel_rfl))) (by omega) hw2 hpl,
              trivial⟩ (by kernel_rfl) (by kernel_rfl) (by kernel_rfl) (by kernel_rfl) rfl rfl rfl rfl) (fin_ds [93, 94, 95, 96, 97, 98, 99, 100, 101] (by kernel_rfl) (fun vs L z hall hS hk => ?_)) (all_dst (by kernel_rfl)))
          have e101 := hk 8 _ 101 rfl rfl
          obtain ⟨p8, t8, _⟩ := hS
          obtain ⟨ow8, hq8⟩ : z.ownsRow u2.heap.size 36 2 (vs 101) (acc.length + 1) (rX 2 (setG Z acc.length (exV ⟨k, bd⟩)) (acc.length + 1)) ∧ _ := e101
          obtain ⟨ad2, cap2, hv2, _⟩ := ownM_shape ow8
          rw [hv2] at ow8 hq8
          show wpList Try.prog _ _ (_ :: _ :: []) _ _
          simp only [putAll, Act.put, List.setIfInBounds_toArray, List.set_cons_zero, List.set_cons_succ, hv2]
          clear hv2 hk hall
          have q8 : SAt z g6 _ _ _ := (t8.block g6 (heap_lt hq) (fun e => by have := ownM_base hown g6 e; omega)).trans hq
          have ht8 : Touch (fun q => q = g3) u2 z := ⟨t8.os.trans ht.os, t8.tape.trans ht.tape, t8.output.trans ht.output, Nat.le_trans ht.size t8.size, fun j hj hn => (t8.block j (by omega) (fun e => by have := ownM_base hown j e; omega)).trans (ht.block j hj hn)⟩
          clear hp hq hown ht t8 HPP
          go_wp2_with (first | (refine wl_value rfl (exec_fpkL 11 43 (by decide) rfl rfl (by rfl)) ?_) | (refine wl_stP rfl rfl (by rfl) (by rfl) (by decide) stX p8 (pk_up43 P _ _) ?_; intro u9 p9 o9; refine Hid.out ?_))
          refine Hid.mk ?_
          have q9 := q8.only o9 hne
          have ow9 := ownM_block ow8 (fun q hq => o9.block q (by have := ownM_base ow8 q hq; omega))
          have ht9 := ht8.tr (tou_only o9)
          go_wp2_with (refine wl_value rfl (exec_slL (u := .int .i64 (N8 : Int)) rfl (by rfl) (by rfl) (HSR.out _)) ?_)
          go_roundg (5 - (acc.length + 1))
          case rel => exact ⟨acc ++ [⟨k, bd⟩], k2, rest2, _, setG Z acc.length (exV ⟨k, bd⟩), Hid.mk (by simp), rfl, rfl, Hid.mk ⟨by simp; omega, HSS.out, p9, q9, by simpa using ow9, exs_more HZ.out, by rw [show 5 - (acc ++ [Ex.mk k bd]).length = m by have := HM.out; simp; omega]; exact HE.out.symm, ht9⟩⟩
          case measure => have := HG.out; omega
end Go.Proofs.Ytdlepeogmjmleaa
/-
  Own text. The document's Parse.
-/
namespace Go.Proofs.Ytdlepeogmjmleaa
open Go.RowKit Go.Proofs
set_option maxRecDepth 100000
theorem en_rParse (args : Array Value) (w : World) : (callFunc 17 args).run Try.prog w = .ok (.enter 17 args) w := by kernel_rfl
theorem exec_quo16 {a : Act} {o : Oper} {w : World} {x y : Operand} (ho : o.op = .binOp .quo 5 x y 5) {i q : Nat} (hx : a.eval x = .int .u8 (i : Int)) (hy : a.eval y = .int .u8 16) (hq : i / 16 = q) (hi : i < 256) : (execOp a.eval o).run Try.prog w = .ok (.value (.int .u8 (q : Int))) w := by
  subst hq
  refine exec_bin2 ho hx hy rfl ?_
  have e : Int.tdiv (i : Int) 16 = (i : Int) / 16 := Int.tdiv_eq_ediv_of_nonneg (by omega)
  have e2 : IntKind.u8.wrap ((i : Int) / 16) = (i : Int) / 16 := by rw [IntKind.wrap_u8]; omega
  simp [go_sem, e, e2]
theorem exec_eqT {a : Act} {o : Oper} {w : World} {x y : Operand} {s t : ByteArray} (h : s = t) (ho : o.op = .binOp .eql 9 x y 9) (hx : a.eval x = .string s) (hy : a.eval y = .string t) : (execOp a.eval o).run Try.prog w = .ok (.value (.bool true)) w := by
  have := exec_eqSd (w := w) ho hx hy
  rwa [decide_eq_true h] at this
theorem exec_eqF {a : Act} {o : Oper} {w : World} {x y : Operand} {s t : ByteArray} (h : s ≠ t) (ho : o.op = .binOp .eql 9 x y 9) (hx : a.eval x = .string s) (hy : a.eval y = .string t) : (execOp a.eval o).run Try.prog w = .ok (.value (.bool false)) w := by
  have := exec_eqSd (w := w) ho hx hy
  rwa [decide_eq_false h] at this
def pk6d (c f h : Int) : Pk := ⟨false, fun _ => 0, false, fun _ => 0, 0, h, c, 0, 0, false, false, ByteArray.empty, f, [], false, ByteArray.empty⟩
theorem run_bd6d (c f h : Int) (w : World) : (Instr.build 27 #[(4, .int .i64 c), (10, .int .i64 f), (3, .int .i64 h)]).run Try.prog w = .ok (.agg (SC 46 (pkV (pk6d c f h) (.slice none 0 0)))) w := by
  kernel_rfl
theorem exec_bd6d {a : Act} {o : Oper} {w : World} {z q r : Operand} (ho : o.op = .build 27 #[(4, z), (10, q), (3, r)]) {c f h : Int} (hz : a.eval z = .int .i64 c) (hq : a.eval q = .int .i64 f) (hr : a.eval r = .int .i64 h) : (execOp a.eval o).run Try.prog w = .ok (.value (.agg (SC 46 (pkV (pk6d c f h) (.slice none 0 0))))) w := by
  unfold execOp
  simp only [ho, List.map_toArray, List.map_cons, List.map_nil, hz, hq, hr, Sem.run_bind, run_bd6d, Result.andThen_ok, Sem.run_pure]
/-- What is told of a packet that was read. -/
def DTold (B : Nat) (R : Rd) (Q : Pk) (v : Value) (x : Int) (w' : World) : Prop :=
  (R = .err x ∧ Q = zeroP ∧ v = .slice none 0 0) ∨ ∃ Z, R = .ok Q ∧ x = 0 ∧ w'.ownsRow B 36 2 v Q.exts.length (rX 2 Z Q.exts.length) ∧ (∀ j x, Q.exts[j]? = some x → ∀ f, f < 2 → Z j f = exV x f)
theorem DTold.one {B : Nat} {R : Rd} {Q : Pk} {v : Value} {x : Int} {w' : World} (h : DTold B R Q v x w') : v.oneCell' = true := by
  rcases h with ⟨_, _, rfl⟩ | ⟨Z, _, _, h, _⟩
  · rfl
  · obtain ⟨_, _, e, _⟩ := ownM_shape h
    rw [e]
    rfl
theorem DTold.only {B C g : Nat} {R : Rd} {Q : Pk} {v : Value} {x : Int} {w' w2 : World} (h : DTold B R Q v x w') (o : Only g w' w2) (hg : g < B) (hC : C ≤ B) : DTold C R Q v x w2 := by
  rcases h with h | ⟨Z, h1, h2, h3, h4⟩
  · exact .inl h
  · exact .inr ⟨Z, h1, h2, ownM_mono (ownM_block h3 (fun q hq => o.block q (by have := ownM_base h3 q hq; omega))) hC, h4⟩
theorem DTold.kept {B : Nat} {R : Rd} {Q : Pk} {v : Value} {x : Int} {w w' : World} (h : DTold B R Q v x w) (hb : Below w.heap.size w w') : DTold B R Q v x w' := by
  rcases h with h | ⟨Z, h1, h2, h3, h4⟩
  · exact .inl h
  · exact .inr ⟨Z, h1, h2, ownT_kept h3 hb, h4⟩
def rdQ : Rd → Pk
  | .err _ => zeroP
  | .ok Q => Q
def rdX : Rd → Int
  | .err x => x
  | .ok _ => 0
def DT7 (B : Nat) (R : Rd) (val : Value) (w : World) : Prop := ∃ v, val = .tuple #[.agg (SC 46 (pkV (rdQ R) v)), .int .i64 (rdX R)] ∧ DTold B R (rdQ R) v (rdX R) w
def DT8 (B : Nat) (R : Rd) (val : Value) (w : World) : Prop := ∃ v, val = .agg (SC 46 (pkV (rdQ R) v)) ∧ DTold B R (rdQ R) v (rdX R) w
theorem DTold.q {B : Nat} {R : Rd} {Q : Pk} {v : Value} {x : Int} {w : World} (h : DTold B R Q v x w) : Q = rdQ R ∧ x = rdX R := by
  rcases h with ⟨h1, h2, _⟩ | ⟨Z, h1, h2, _⟩
  · rw [h1, h2]; exact ⟨rfl, rfl⟩
  · rw [h1, h2]; exact ⟨rfl, rfl⟩
theorem dt7_of {B C : Nat} {R : Rd} {Q : Pk} {v : Value} {x : Int} {w : World} (h : DTold B R Q v x w) (hC : C ≤ B) : DT7 C R (.tuple #[.agg (SC 46 (pkV Q v)), .int .i64 x]) w := by
  obtain ⟨rfl, rfl⟩ := h.q
  refine ⟨v, rfl, ?_⟩
  rcases h with h | ⟨Z, h1, h2, h3, h4⟩
  · exact .inl h
  · exact .inr ⟨Z, h1, h2, ownM_mono h3 hC, h4⟩
def phX (l : List Value) (B : Nat) (R : Rd) (j : Nat) (vv : Value) (w : World) : Prop := if j = 7 then DT7 B R vv w else if j = 8 then DT8 B R vv w else vv = l.getD j undef
theorem phX_kept {l : List Value} {B j : Nat} {R : Rd} {vv : Value} {w w' : World} (h : phX l B R j vv w) (hb : Below w.heap.size w w') : phX l B R j vv w' := by
  unfold phX at h ⊢
  split
  · rename_i e
    rw [if_pos e] at h
    obtain ⟨v, h1, h2⟩ := h
    exact ⟨v, h1, h2.kept hb⟩
  · rename_i e
    rw [if_neg e] at h
    split
    · rename_i e
      rw [if_pos e] at h
      obtain ⟨v, h1, h2⟩ := h
      exact ⟨v, h1, h2.kept hb⟩
    · rename_i e
      rw [if_neg e] at h
      exact h
theorem own_exAt {w : World} {B : Nat} {v : Value} {Z : Nat → Nat → Value} {l : List Ex} (h : w.ownsRow B 36 2 v l.length (rX 2 Z l.length)) (hz : ∀ j x, l[j]? = some x → ∀ f, f < 2 → Z j f = exV x f) : ExAt w v l := by
  rcases h.2 with ⟨hv, hn⟩ | ⟨g, cap, cur, hv, hb, hg, _⟩
  · exact ⟨none, 0, by rw [hv, hn], fun j x hj => absurd (List.getElem?_eq_some_iff.1 hj).1 (by omega)⟩
  · subst hv
    refine ⟨_, _, rfl, fun j x hj => ?_⟩
    have hl := (List.getElem?_eq_some_iff.1 hj).1
    have h0 := own_at h hl 0 (by decide)
    have h1 := own_at h hl 1 (by decide)
    rw [hz j x hj 0 (by decide)] at h0
    rw [hz j x hj 1 (by decide)] at h1
    refine ⟨⟨g, 0, none⟩, rfl, heap_lt hg, ?_, ?_⟩
    · rw [Addr.add_lit, Nat.zero_add]; exact h0
    · rw [Addr.add_lit, Nat.zero_add]; exact h1
set_option maxHeartbeats 8000000 in
theorem rParse_run (b : ByteArray) (w : World) (hsm : b.size < 4611686018427387904) : Calls Try.prog 17 #[.string b] w fun e w' => DEnd w (rdP b) e w' := by
  obtain ⟨R, hR⟩ : ∃ R, rdP b = R := ⟨_, rfl⟩
  rw [hR]
  have HR := Hid.mk hR
  have HSM := Hid.mk hsm
  clear hR hsm
  by_cases h0 : b.size = 0
  · have HE : Hid (R = .err 70) := Hid.mk (by rw [← HR.out]; unfold rdP; rw [if_pos h0])
    have HB : Hid (b = ByteArray.empty) := Hid.mk (txt_ext (by rw [h0]; rfl) (fun j hj => by omega))
    clear h0
    go_enter Try.func17, Try.ntmps17
    go_wp2_with (refine wl_alO rfl rfl zeroPk ?_; intro g1 u2 hg1 q1 hB2; refine Hid.out ?_)
    refine Hid.mk ?_
    go_wp2_with (first | (refine wl_value rfl (exec_eqT (s := b) (t := ByteArray.empty) HB.out rfl (by rfl) (by rfl)) ?_) | (refine wl_value rfl (exec_pk0 rfl) ?_) | (refine st_stO rfl rfl isPk (fun i => pkV_one rfl i) q1 (by rfl) (by rfl) ?_; intro u90 q90 o90; refine Hid.out ?_))
    refine Hid.mk ?_
    go_wp2_with fail
    exact bodyPost_ret (res_ct rfl isPk q90 (by rfl) (by rfl)) rfl ⟨hB2.trans (o90.below hg1), zeroP, _, 70, rfl, .inl ⟨HE.out, rfl, rfl⟩⟩
  have HB : Hid (b ≠ ByteArray.empty) := Hid.mk (fun e => h0 (by rw [e]; rfl))
  obtain ⟨v0, hv0⟩ : ∃ v0 : Nat, (txt b 0).toNat = v0 := ⟨_, rfl⟩
  have hb0 := txt_b b 0
  have HX0 : Hid (txt b 0 = (v0 : Int)) := Hid.mk (by omega)
  have HZ : Hid (0 < b.size) := Hid.mk (by omega)
  have hv : v0 < 256 := by omega
  obtain ⟨V, hV⟩ : ∃ V : Nat, v0 / 16 = V := ⟨_, rfl⟩
  have HVV := Hid.mk hV
  clear hV
  go_enter Try.func17, Try.ntmps17
  go_wp2_with (refine wl_alO rfl rfl zeroPk ?_; intro g1 u2 hg1 q1 hB2; refine Hid.out ?_)
  refine Hid.mk ?_
  go_wp2_with (first | (refine wl_value rfl (exec_eqF (s := b) (t := ByteArray.empty) HB.out rfl (by rfl) (by rfl)) ?_) | (refine wl_value rfl (exec_ixv (j := 0) rfl (by rfl) (by rfl) HZ.out HX0.out) ?_) | (refine wl_value rfl (exec_quo16 (i := v0) (q := V) rfl (by rfl) (by rfl) HVV.out hv) ?_; refine Hid.out ?_))
  refine Hid.mk ?_
  have HNE := Hid.mk h0
  have HV0 := Hid.mk hv0
  clear hv0 hb0 h0
  by_cases c4 : V = 4
  · subst c4
    by_cases h20 : b.size < 20
    · have HE : Hid (R = .err 70) := Hid.mk (by
        rw [← HR.out]
        unfold rdP
        rw [if_neg HNE.out, HV0.out, HVV.out, if_neg (by omega), if_pos (.inl h20)])
      have h20i : (b.size : Int) < 20 := by omega
      go_wp2_with (first | (refine wl_value rfl (exec_pk0 rfl) ?_) | (refine st_stO rfl rfl isPk (fun i => pkV_one rfl i) q1 (by rfl) (by rfl) ?_; intro u90 q90 o90; refine Hid.out ?_))
      refine Hid.mk ?_
      go_wp2_with fail
      exact bodyPost_ret (res_ct rfl isPk q90 (by rfl) (by rfl)) rfl ⟨hB2.trans (o90.below hg1), zeroP, _, 70, rfl, .inl ⟨HE.out, rfl, rfl⟩⟩
    · have HE : Hid (rd4 b = R) := Hid.mk (by
        rw [← HR.out]
        unfold rdP
        rw [if_neg HNE.out, HV0.out, HVV.out, if_neg (by omega), if_neg (by omega), if_pos rfl])
      have h20i : ¬ (b.size : Int) < 20 := by omega
      have HC := Hid.mk (rRead4_run b u2 HSM.out (by omega) R HE.out)
      go_wp2_with (go_at_call 37; refine HC.out.mono ?_; rintro e u3 ⟨hBr, Q, v, x, rfl, hcase⟩; refine Hid.out ?_)
      refine Hid.mk ?_
      have htd : DTold _ R Q v x _ := hcase
      have hon := htd.one
      have HF := Hid.mk htd
      have qN := q1.kept hBr
      have lN := heap_lt q1
      have sN := hB2.size
      clear hcase htd
      go_wp2_with (refine st_stO rfl rfl isPk (fun i => pkV_one hon i) qN (by rfl) (by rfl) ?_; intro u90 q90 o90; refine Hid.out ?_)
      refine Hid.mk ?_
      go_wp2_with fail
      exact bodyPost_ret (res_ct rfl isPk q90 (by rfl) (by rfl)) rfl ⟨(hB2.trans (hBr.mono hB2.size)).trans (o90.below hg1), Q, v, x, rfl, HF.out.only o90 lN sN⟩
  · have c4' : ((V : Int) == 4) = false := beq_false_of_ne (by omega)
    by_cases c6 : V = 6
    · subst c6
      by_cases h20 : b.size < 40
      · have HE : Hid (R = .err 70) := Hid.mk (by
          rw [← HR.out]
          unfold rdP
          rw [if_neg HNE.out, HV0.out, HVV.out, if_neg (by omega), if_pos (by omega)])
        by_cases h20j : b.size < 20
        · have h20i : (b.size : Int) < 20 := by omega
          go_wp2_with (first | (refine wl_value rfl (exec_pk0 rfl) ?_) | (refine st_stO rfl rfl isPk (fun i => pkV_one rfl i) q1 (by rfl) (by rfl) ?_; intro u90 q90 o90; refine Hid.out ?_))
          refine Hid.mk ?_
          go_wp2_with fail
          exact bodyPost_ret (res_ct rfl isPk q90 (by rfl) (by rfl)) rfl ⟨hB2.trans (o90.below hg1), zeroP, _, 70, rfl, .inl ⟨HE.out, rfl, rfl⟩⟩
        · have h20i : ¬ (b.size : Int) < 20 := by omega
          have h40i : (b.size : Int) < 40 := by omega
          go_wp2_with (first | (refine wl_value rfl (exec_pk0 rfl) ?_) | (refine st_stO rfl rfl isPk (fun i => pkV_one rfl i) q1 (by rfl) (by rfl) ?_; intro u90 q90 o90; refine Hid.out ?_))
          refine Hid.mk ?_
          go_wp2_with fail
          exact bodyPost_ret (res_ct rfl isPk q90 (by rfl) (by rfl)) rfl ⟨hB2.trans (o90.below hg1), zeroP, _, 70, rfl, .inl ⟨HE.out, rfl, rfl⟩⟩
      have HE : Hid ((if b.size < 40 + getN (txt b) 4 2 then .err 72 else rdEx (h6 b) 5 [] (txt b 6) (b.extract 40 (40 + getN (txt b) 4 2))) = R) := Hid.mk (by
        have e := HR.out
        unfold rdP at e
        rw [if_neg HNE.out, HV0.out, HVV.out, if_neg (by omega), if_neg (by omega), if_neg (by decide)] at e
        exact e)
      have h20i : ¬ (b.size : Int) < 20 := by omega
      have h40i : ¬ (b.size : Int) < 40 := by omega
      have hsm := HSM.out
      have HN4 : Hid (∀ ww, Calls Try.prog 38 #[.string b, .int .i64 4, .int .i64 2] ww fun e w' => e = .returned (.int .i64 ((getN (txt b) 4 2 : Nat) : Int)) ∧ Below ww.heap.size ww w') := Hid.mk (fun ww => by
        have := rnum_run b 4 2 ww (by omega) (by decide) (by decide) (by omega)
        exact this)
      have HN0 : Hid (∀ ww, Calls Try.prog 38 #[.string b, .int .i64 0, .int .i64 4] ww fun e w' => e = .returned (.int .i64 ((getN (txt b) 0 4 : Nat) : Int)) ∧ Below ww.heap.size ww w') := Hid.mk (fun ww => by
        have := rnum_run b 0 4 ww (by omega) (by decide) (by decide) (by omega)
        exact this)
      have HN7 : Hid (∀ ww, Calls Try.prog 38 #[.string b, .int .i64 7, .int .i64 1] ww fun e w' => e = .returned (.int .i64 (txt b 7)) ∧ Below ww.heap.size ww w') := Hid.mk (fun ww => by
        have := rnum_run b 7 1 ww (by omega) (by decide) (by decide) (by omega)
        rw [getN_one, Int.toNat_of_nonneg (txt_b b 7).1] at this
        exact this)
      have HN6 : Hid (∀ ww, Calls Try.prog 38 #[.string b, .int .i64 6, .int .i64 1] ww fun e w' => e = .returned (.int .i64 (txt b 6)) ∧ Below ww.heap.size ww w') := Hid.mk (fun ww => by
        have := rnum_run b 6 1 ww (by omega) (by decide) (by decide) (by omega)
        rw [getN_one, Int.toNat_of_nonneg (txt_b b 6).1] at this
        exact this)
      have HA1 : Hid (∀ ww, Calls Try.prog 39 #[.string (b.extract 8 24)] ww fun e w' => e = .returned (.tuple #[.agg (SC 17 (adV true (frB (b.extract 8 24)))), .int .i64 0]) ∧ Below ww.heap.size ww w') := Hid.mk (fun ww => by
        have e : (b.extract 8 24).size = 16 := cutP_size b 8 24 (by omega)
        have := rFrom_run (b.extract 8 24) ww (.inr e)
        rw [e] at this
        exact this)
      have HT1 : Hid (∀ ww, (Instr.sliceAt 9 (.string b) (some (.int .i64 8)) (some (.int .i64 24)) none).run Try.prog ww = .ok (.string (b.extract 8 24)) ww) := Hid.mk (fun ww => cutLH b 8 24 ww (by omega) (by omega))
      have HA2 : Hid (∀ ww, Calls Try.prog 39 #[.string (b.extract 24 40)] ww fun e w' => e = .returned (.tuple #[.agg (SC 17 (adV true (frB (b.extract 24 40)))), .int .i64 0]) ∧ Below ww.heap.size ww w') := Hid.mk (fun ww => by
        have e : (b.extract 24 40).size = 16 := cutP_size b 24 40 (by omega)
        have := rFrom_run (b.extract 24 40) ww (.inr e)
        rw [e] at this
        exact this)
      have HT2 : Hid (∀ ww, (Instr.sliceAt 9 (.string b) (some (.int .i64 24)) (some (.int .i64 40)) none).run Try.prog ww = .ok (.string (b.extract 24 40)) ww) := Hid.mk (fun ww => cutLH b 24 40 ww (by omega) (by omega))
      have hM : getN (txt b) 4 2 < 65536 := getN_lt2 b 4
      have hW : getN (txt b) 0 4 < 4294967296 := getN_lt4 b 0
      obtain ⟨L40, hL40⟩ : ∃ L40, b.size = 40 + L40 := ⟨b.size - 40, by omega⟩
      have HL40 := Hid.mk hL40
      have hL40l : L40 < 4611686018427387904 := by omega
      obtain ⟨M4, hM4⟩ : ∃ M4, 40 + getN (txt b) 4 2 = M4 := ⟨_, rfl⟩
      have HSR : Hid (¬ L40 < getN (txt b) 4 2 → ∀ ww, (Instr.sliceAt 9 (.string b) (some (.int .i64 40)) (some (.int .i64 (M4 : Int))) none).run Try.prog ww = .ok (.string (b.extract 40 M4)) ww) := Hid.mk (fun hh ww => cutLH b 40 M4 ww (by omega) (by omega))
      have HSS : Hid ((b.extract 40 M4).size < 4611686018427387904) := Hid.mk (by rw [ByteArray.size_extract]; omega)
      have HE1 : Hid (L40 < getN (txt b) 4 2 → R = .err 72) := Hid.mk (fun hh => by rw [← HE.out, if_pos (by omega)])
      have HE2 : Hid (¬ L40 < getN (txt b) 4 2 → rdEx (h6 b) 5 [] (txt b 6) (b.extract 40 M4) = R) := Hid.mk (fun hh => by rw [← HE.out, if_neg (by omega), hM4])
      have hM4l : M4 < 70000 := by omega
      have HM4 := Hid.mk hM4
      have HH6 : Hid (h6 b = { { pk6d ((getN (txt b) 0 4 / 1048576 % 256 : Nat) : Int) ((getN (txt b) 0 4 % 1048576 : Nat) : Int) (txt b 7) with sv := true, sb := frB (b.extract 8 24) } with dv := true, db := frB (b.extract 24 40) }) := Hid.mk rfl
      clear hsm h20 hM4 hL40 HE HVV HV0 HX0
      generalize h6 b = H6 at *
      generalize b.extract 40 M4 = rest at *
      generalize frB (b.extract 8 24) = F1 at *
      generalize frB (b.extract 24 40) = F2 at *
      generalize b.extract 8 24 = A1 at *
      generalize b.extract 24 40 = A2 at *
      generalize txt b 6 = K6 at *
      generalize txt b 7 = H7 at *
      generalize getN (txt b) 0 4 = W at *
      generalize getN (txt b) 4 2 = M at *
      obtain ⟨WQ, hWQ⟩ : ∃ WQ, W / 1048576 = WQ := ⟨_, rfl⟩
      obtain ⟨WC, hWC⟩ : ∃ WC, WQ % 256 = WC := ⟨_, rfl⟩
      obtain ⟨WF, hWF⟩ : ∃ WF, W % 1048576 = WF := ⟨_, rfl⟩
      rw [hWQ, hWC, hWF] at HH6
      have HWQ := Hid.mk hWQ
      have HWC := Hid.mk hWC
      have HWF := Hid.mk hWF
      clear hWQ hWC hWF
      go_wp2_with (go_at_call 38; refine (HN4.out _).mono ?_; rintro e u3 ⟨rfl, hB3⟩; refine Hid.out ?_)
      refine Hid.mk ?_
      have q3 := q1.kept hB3
      have hBa := hB2.trans (hB3.mono hB2.size)
      clear q1 hB2 hB3
      by_cases hlt : L40 < M
      · have HE : Hid (R = .err 72) := Hid.mk (HE1.out hlt)
        have hlti : (L40 : Int) < (M : Int) := by omega
        go_wp2_with (first | (refine wl_value rfl (exec_subW (i := b.size) (m := 40) (q := L40) rfl (by rfl) (by rfl) HL40.out (by omega)) ?_) | (refine wl_value rfl (exec_pk0 rfl) ?_) | (refine st_stO rfl rfl isPk (fun i => pkV_one rfl i) q3 (by rfl) (by rfl) ?_; intro u90 q90 o90; refine Hid.out ?_))
        refine Hid.mk ?_
        go_wp2_with fail
        exact bodyPost_ret (res_ct rfl isPk q90 (by rfl) (by rfl)) rfl ⟨hBa.trans (o90.below hg1), zeroP, _, 72, rfl, .inl ⟨HE.out, rfl, rfl⟩⟩
      have hlti : ¬ (L40 : Int) < (M : Int) := by omega
      replace HSR := Hid.mk (HSR.out hlt)
      replace HE2 := Hid.mk (HE2.out hlt)
      clear hlt HE1
      go_wp2_with (first | (refine wl_value rfl (exec_subW (i := b.size) (m := 40) (q := L40) rfl (by rfl) (by rfl) HL40.out (by omega)) ?_) | (go_at_call 38; refine (HN0.out _).mono ?_; rintro e u4 ⟨rfl, hB4⟩; refine Hid.out ?_))
      refine Hid.mk ?_
      have q4 := q3.kept hB4
      have hBb := hBa.trans (hB4.mono hBa.size)
      clear q3 hBa hB4
      go_wp2_with (first | (refine wl_value rfl (exec_quoW (i := W) (m := 1048576) (q := WQ) rfl (by rfl) (by rfl) HWQ.out (by decide) (by omega)) ?_) | (refine wl_value rfl (exec_remW (i := WQ) (m := 256) (q := WC) rfl (by rfl) (by rfl) HWC.out (by decide)) ?_) | (refine wl_value rfl (exec_remW (i := W) (m := 1048576) (q := WF) rfl (by rfl) (by rfl) HWF.out (by decide)) ?_) | (go_at_call 38; refine (HN7.out _).mono ?_; rintro e u5 ⟨rfl, hB5⟩; refine Hid.out ?_))
      refine Hid.mk ?_
      have q5 := q4.kept hB5
      have hBc := hBb.trans (hB5.mono hBb.size)
      clear q4 hBb hB5
      go_wp2_with (first | (refine wl_value rfl (exec_bd6d rfl (by rfl) (by rfl) (by rfl)) ?_) | (refine wl_alO rfl rfl zeroPk ?_; intro gp u8 hgp qp hB8; refine Hid.out ?_))
      refine Hid.mk ?_
      have q8 := q5.kept hB8
      have l7 := heap_lt q5
      have hBe := hBc.trans (hB8.mono hBc.size)
      have hs8 := hBc.size
      clear q5 hBc
      go_wp2_with (refine st_stO rfl rfl isPk (fun i => pkV_one rfl i) qp (by rfl) (by rfl) ?_; intro u10 p10 o10; refine Hid.out ?_)
      refine Hid.mk ?_
      have q10 := q8.only o10 (by omega)
      have hBf := hBe.trans (o10.below (show w.heap.size ≤ gp by omega))
      have hgpw : w.heap.size ≤ gp := by omega
      have hneq : g1 ≠ gp := by omega
      clear q8 hBe o10 qp hB8 l7
      go_wp2_with (first | (refine wl_value rfl (exec_slLH (u := .int .i64 8) (u' := .int .i64 24) rfl (by rfl) (by rfl) (by rfl) (HT1.out _)) ?_) | (go_at_call 39; refine (HA1.out _).mono ?_; rintro e x1 ⟨rfl, hBx1⟩; refine Hid.out ?_))
      refine Hid.mk ?_
      go_wp2_with (refine wl_alO rfl rfl zeroAddr ?_; intro g8 u11 hg8 q8 hB11; refine Hid.out ?_)
      refine Hid.mk ?_
      have p11 := (p10.kept hBx1).kept hB11
      have q11 := (q10.kept hBx1).kept hB11
      have hBg0 := hBf.trans (hBx1.mono hBf.size)
      have hBg := hBg0.trans (hB11.mono hBg0.size)
      have l10 := heap_lt p10
      have l10q := heap_lt q10
      have s1 := hBx1.size
      have s0 := hBg0.size
      go_wp2_with (refine st_stO rfl rfl isAddr (adV_one _ _) q8 (by rfl) (by rfl) ?_; intro u12 r8 o12; refine Hid.out ?_)
      refine Hid.mk ?_
      have p12 := p11.only o12 (by omega)
      have q12 := q11.only o12 (by omega)
      have hBh := hBg.trans (o12.below (show w.heap.size ≤ g8 by omega))
      clear p10 p11 q10 q11 hBf hBg0 hBg o12 q8 hB11 hBx1 l10 l10q s1 s0
      go_wp2_with (first | (refine wl_value rfl (exec_slLH (u := .int .i64 24) (u' := .int .i64 40) rfl (by rfl) (by rfl) (by rfl) (HT2.out _)) ?_) | (go_at_call 39; refine (HA2.out _).mono ?_; rintro e x2 ⟨rfl, hBx2⟩; refine Hid.out ?_))
      refine Hid.mk ?_
      go_wp2_with (refine wl_alO rfl rfl zeroAddr ?_; intro g10 u13 hg10 q10 hB13; refine Hid.out ?_)
      refine Hid.mk ?_
      have p13 := (p12.kept hBx2).kept hB13
      have q13 := (q12.kept hBx2).kept hB13
      have r13 := (r8.kept hBx2).kept hB13
      have hBg0 := hBh.trans (hBx2.mono hBh.size)
      have hBg := hBg0.trans (hB13.mono hBg0.size)
      have l10 := heap_lt p12
      have l10q := heap_lt q12
      have l10r := heap_lt r8
      have s1 := hBx2.size
      have s0 := hBg0.size
      go_wp2_with (refine st_stO rfl rfl isAddr (adV_one _ _) q10 (by rfl) (by rfl) ?_; intro u14 r10 o14; refine Hid.out ?_)
      refine Hid.mk ?_
      have p14 := p13.only o14 (by omega)
      have q14 := q13.only o14 (by omega)
      have r14 := r13.only o14 (by omega)
      have hBi := hBg.trans (o14.below (show w.heap.size ≤ g10 by omega))
      have hne10 : g10 ≠ gp := by omega
      clear p12 p13 q12 q13 r8 r13 hBh hBg0 hBg o14 q10 hB13 hBx2 l10 l10q l10r s1 s0
      go_wp2_with (first | (refine wl_value rfl (look_st rfl isAddr r14 (by rfl)) ?_) | (refine wl_value rfl (exec_fpkL 0 0 (by decide) rfl rfl (by rfl)) ?_) | (refine wl_stAd rfl rfl (by rfl) (by rfl) (by decide) p14 (pk_upS _ _ _ _) ?_; intro u15 p15 o15; refine Hid.out ?_))
      refine Hid.mk ?_
      have q15 := q14.only o15 hneq
      have r15 := r10.only o15 hne10
      have hBj := hBi.trans (o15.below hgpw)
      clear p14 q14 r14 r10 hBi o15
      go_wp2_with (first | (refine wl_value rfl (look_st rfl isAddr r15 (by rfl)) ?_) | (refine wl_value rfl (exec_fpkL 1 17 (by decide) rfl rfl (by rfl)) ?_) | (refine wl_stAd rfl rfl (by rfl) (by rfl) (by decide) p15 (pk_upD _ _ _ _) ?_; intro u16 p16 o16; refine Hid.out ?_))
      refine Hid.mk ?_
      have q16 := q15.only o16 hneq
      have hBk := hBj.trans (o16.below hgpw)
      rw [← HH6.out] at p16
      clear p15 q15 r15 hBj o16
      have HX : Hid (∀ ww, u16.heap.size ≤ ww.heap.size → Calls Try.prog 40 #[.agg (SC 46 (pkV H6 (.slice none 0 0))), .int .i64 K6, .string rest] ww fun r w' => ∃ v, r = .returned v ∧ (DT7 u16.heap.size R v w' ∧ Below ww.heap.size ww w')) := Hid.mk (fun ww hw => by
        have hc := rExts_run rest H6 K6 ww HSS.out
        rw [HE2.out] at hc
        exact hc.mono (fun e w' ⟨hb, Q, v, x, he, hd⟩ => ⟨_, he, dt7_of hd hw, hb⟩))
      go_upto_region 19 with fail
      refine wp_region_cut 10 rfl (by kernel_rfl) (any_steps (Below u16.heap.size u16) (fun v v' => Below v.heap.size v v') (phX ([.agg (SC 46 (pkV H6 (.slice none 0 0))), .string b, .int .i64 K6, .string b, .int .i64 ((M : Nat) : Int), .int .i64 ((M4 : Nat) : Int), .string rest, undef, undef, .int .i64 (rdX R)] : List Value) u16.heap.size R)
          [78, 79, 80, 81, 82, 83, 84, 85, 86, 87]
          [(7, .pointer (some ⟨gp, 0, none⟩)), (0, .string b), (5, .int .i64 ((M : Nat) : Int))]
          [[], [], [1], [], [], [4], [3, 5], [0, 2, 6], [7], [7]]
          (by kernel_rfl) ⟨rfl, rfl, rfl, trivial⟩ (Below.drew (Below.refl _ _)) (fun v v' h hb => h.trans (hb.mono h.size)) (fun j vv v v' h hb => phX_kept h hb)
          ⟨
          (fun QQ aa ww hS fr kn => ⟨trivial, fun K hK => wp_value (look_st rfl isPk (SAt.kept p16 hS) fr.1) (hK _ _ rfl (Below.refl _ _))⟩),
          (fun QQ aa ww hS fr kn => ⟨trivial, fun K hK => wp_value (exec_move rfl fr.2.1) (hK _ _ rfl (Below.refl _ _))⟩),
          (fun QQ aa ww hS fr kn => ⟨trivial, fun K hK => stepc en_rnum rfl (args3 kn.1 rfl rfl) (HN6.out ww) (fun w' hb => hK _ _ rfl hb)⟩),
          (fun QQ aa ww hS fr kn => ⟨trivial, fun K hK => wp_value (exec_move rfl fr.2.1) (hK _ _ rfl (Below.refl _ _))⟩),
          (fun QQ aa ww hS fr kn => ⟨trivial, fun K hK => wp_value (exec_move rfl fr.2.2.1) (hK _ _ rfl (Below.refl _ _))⟩),
          (fun QQ aa ww hS fr kn => ⟨trivial, fun K hK => wp_value (exec_addW (i := 40) (m := M) (q := M4) rfl rfl kn.1 HM4.out (by omega)) (hK _ _ rfl (Below.refl _ _))⟩),
          (fun QQ aa ww hS fr kn => ⟨trivial, fun K hK => wp_value (exec_slLH (u := .int .i64 40) (u' := .int .i64 (M4 : Int)) rfl kn.1 rfl kn.2.1 (HSR.out ww)) (hK _ _ rfl (Below.refl _ _))⟩),
          (fun QQ aa ww hS fr kn => ⟨trivial, fun K hK => stepp en_exts rfl (args3 kn.1 kn.2.1 kn.2.2.1) (HX.out ww hS.size) (fun v w' hr => hK _ _ hr.1 hr.2)⟩),
          (fun QQ aa ww hS fr kn => ⟨trivial, fun K hK => (match (show DT7 u16.heap.size R _ ww from kn.1) with | ⟨v, e, hd⟩ => wp_value (exec_ext rfl e rfl) (hK _ _ ⟨v, rfl, hd⟩ (Below.refl _ _)))⟩),
          (fun QQ aa ww hS fr kn => ⟨trivial, fun K hK => (match (show DT7 u16.heap.size R _ ww from kn.1) with | ⟨v, e, hd⟩ => wp_value (exec_ext rfl e rfl) (hK _ _ rfl (Below.refl _ _)))⟩),
          trivial⟩ ?_)
      intro vs u17 hB17 kn
      obtain ⟨v, e86, hcase⟩ : DT8 u16.heap.size R (vs 86) u17 := kn 8 (by decide)
      have e87 : vs 87 = .int .i64 (rdX R) := kn 9 (by decide)
      clear kn
      show wpList Try.prog _ _ (_ :: _ :: []) _ _
      simp only [putAll, Act.put, List.setIfInBounds_toArray, List.set_cons_zero, List.set_cons_succ, e86, e87]
      clear e86 e87
      have hon := hcase.one
      have HF := Hid.mk hcase
      have qN := q16.kept hB17
      have lN := heap_lt q16
      have sN := hBk.size
      clear hcase
      obtain ⟨x, hx⟩ : ∃ x, rdX R = x := ⟨_, rfl⟩
      obtain ⟨Q, hQ⟩ : ∃ Q, rdQ R = Q := ⟨_, rfl⟩
      rw [hx, hQ] at HF ⊢
      clear hx hQ
      go_wp2_with (refine st_stO rfl rfl isPk (fun i => pkV_one hon i) qN (by rfl) (by rfl) ?_; intro u90 q90 o90; refine Hid.out ?_)
      refine Hid.mk ?_
      go_wp2_with fail
      exact bodyPost_ret (res_ct rfl isPk q90 (by rfl) (by rfl)) rfl ⟨(hBk.trans (hB17.mono hBk.size)).trans (o90.below hg1), Q, v, x, rfl, HF.out.only o90 lN sN⟩
    · have c6' : ((V : Int) == 6) = false := beq_false_of_ne (by omega)
      have c4n : ((V : Int) != 4) = true := bne_iff_ne.2 (by omega)
      have c6n : ((V : Int) != 6) = true := bne_iff_ne.2 (by omega)
      have HE : Hid (R = .err 71) := Hid.mk (by
        rw [← HR.out]
        unfold rdP
        rw [if_neg HNE.out, HV0.out, HVV.out, if_pos ⟨c4, c6⟩])
      go_wp2_with (first | (refine wl_value rfl (exec_pk0 rfl) ?_) | (refine st_stO rfl rfl isPk (fun i => pkV_one rfl i) q1 (by rfl) (by rfl) ?_; intro u90 q90 o90; refine Hid.out ?_))
      refine Hid.mk ?_
      go_wp2_with fail
      exact bodyPost_ret (res_ct rfl isPk q90 (by rfl) (by rfl)) rfl ⟨hB2.trans (o90.below hg1), zeroP, _, 71, rfl, .inl ⟨HE.out, rfl, rfl⟩⟩

theorem DTold.exAt {B : Nat} {R : Rd} {Q : Pk} {v : Value} {x : Int} {w : World} (h : DTold B R Q v x w) : ExAt w v Q.exts := by
  rcases h with ⟨_, rfl, rfl⟩ | ⟨Z, _, _, h, hz⟩
  · exact ExAt.nil w
  · exact own_exAt h hz
end Go.Proofs.Ytdlepeogmjmleaa
/-
  Own text. Errors of what is read; bytes that were cut short; a header of which one byte was changed; two packets and their bytes. Names no function of the program.
-/
namespace Go.Proofs.Ytdlepeogmjmleaa
open Go.RowKit Go.Proofs
set_option maxRecDepth 100000
theorem rdEx_err {p : Pk} : ∀ (n : Nat) (acc : List Ex) (k : Int) (rest : ByteArray) {x : Int}, rdEx p n acc k rest = .err x → x = 72 ∨ x = 74
  | 0, _, _, _, x, h => by
    unfold rdEx at h
    injection h with h
    omega
  | n + 1, acc, k, rest, x, h => by
    rw [rdEx] at h
    split at h
    · cases h
    split at h
    · injection h with h; omega
    split at h
    · injection h with h; omega
    split at h
    · split at h
      · injection h with h; omega
      · cases h
    split at h
    · injection h with h; omega
    exact rdEx_err n _ _ _ h
/-- The errors that there are. -/
theorem rd_err {b : ByteArray} {x : Int} (h : rdP b = .err x) : x = 70 ∨ x = 71 ∨ x = 72 ∨ x = 73 ∨ x = 74 := by
  unfold rdP at h
  split at h
  · injection h with h; omega
  split at h
  · injection h with h; omega
  split at h
  · injection h with h; omega
  split at h
  · unfold rd4 at h
    simp only [] at h
    split at h
    · injection h with h; omega
    split at h
    · injection h with h; omega
    split at h
    · injection h with h; omega
    cases h
  split at h
  · injection h with h; omega
  have := rdEx_err _ _ _ _ h
  omega
/-- Bytes that were cut short. -/
theorem rd_short {P : Pk} (h : rgtP P = true) (hf : fitP P = true) {k : Nat} (hk : k < (bldT P).size) : rdP ((bldT P).extract 0 k) = .err (if k < 20 ∨ (P.sv = true ∧ k < 40) then 70 else 72) := by
  have hs := bld_size h hf
  have hz : ((bldT P).extract 0 k).size = k := by rw [cutP_size _ _ _ (by omega)]; omega
  by_cases h0 : k = 0
  · subst h0
    unfold rdP
    rw [hz, if_pos rfl, if_pos (.inl (by decide))]
  have t0 : txt ((bldT P).extract 0 k) 0 = txt (bldT P) 0 := by rw [txt_cutP _ _ _ _ (by omega) (by omega)]
  have gg : ∀ a z, a + z ≤ k → getN (txt ((bldT P).extract 0 k)) a z = getN (txt (bldT P)) a z := fun a z hh => by
    rw [getN_cut _ (by omega) (by omega), Nat.zero_add]
  have hsz : sizeP P = headP P + P.pay.size := by unfold sizeP; rw [if_pos h]
  cases h6 : P.sv
  · have hB : bldT P = fourB P := by unfold bldT; rw [h, hf, h6]; rfl
    obtain ⟨s0, _, s2, _⟩ := four_says h hf h6 ByteArray.empty
    rw [app_empty, ← hB] at s0 s2
    have hh : headP P = 20 + P.opts.size := by unfold headP; rw [if_neg (by rw [h6]; decide)]
    obtain ⟨_, _, _, _, _, _, _, _, hr⟩ := rgtP_iff.1 h
    rw [if_neg (by rw [h6]; decide)] at hr
    obtain ⟨_, ho4, hop, _⟩ := rgt4_iff.1 hr
    have e0 : (txt ((bldT P).extract 0 k) 0).toNat = 64 + headP P / 4 := by rw [t0, s0]; exact Int.toNat_natCast _
    unfold rdP
    rw [hz, e0, if_neg h0, if_neg (by omega)]
    by_cases h20 : k < 20
    · rw [if_pos (.inl h20), if_pos (.inl h20)]
    · rw [if_neg (by omega), if_pos (by omega), if_neg (by rintro (e | ⟨e, _⟩); exact h20 e; cases e)]
      unfold rd4
      simp only []
      rw [gg 2 2 (by omega), s2, hz, if_pos (by omega)]
  · have hB : bldT P = hd6 P ++ (exB P P.exts ++ P.pay) := by
      unfold bldT
      rw [h, hf, h6]
      show sixB P = _
      unfold sixB
      rw [app_assoc]
    obtain ⟨s0, _, s4, _⟩ := hd6_says h hf h6 (exB P P.exts ++ P.pay)
    rw [← hB] at s0 s4
    have h40 : 40 ≤ headP P := by unfold headP; rw [if_pos h6]; omega
    have e0 : (txt ((bldT P).extract 0 k) 0).toNat / 16 = 6 := by rw [t0]; exact s0
    unfold rdP
    rw [hz, e0, if_neg h0, if_neg (by omega)]
    by_cases h20 : k < 40
    · rw [if_pos (by omega), if_pos (.inr ⟨rfl, h20⟩)]
    · rw [if_neg (show ¬ (k < 20 ∨ (true = true ∧ k < 40)) by rintro (e | ⟨_, e⟩) <;> omega), if_neg (by omega), if_neg (by decide), gg 4 2 (by omega), s4, if_pos (by omega)]
theorem sw_one {f g : Nat → Int} {m : Nat} : ∀ n, (∀ j, j < n → j ≠ m → g j = f j) → sw g n = sw f n + (if m < n then (if m % 2 = 0 then 256 * (g m - f m) else g m - f m) else 0)
  | 0, _ => by unfold sw; rw [if_neg (by omega)]; rfl
  | n + 1, h => by
    have ih := sw_one n (fun j hj hm => h j (by omega) hm)
    show sw g n + (if n % 2 = 0 then 256 * g n else g n) = (sw f n + (if n % 2 = 0 then 256 * f n else f n)) + _
    rw [ih]
    by_cases hm : n = m
    · subst hm
      rw [if_neg (Nat.lt_irrefl _), if_pos (Nat.lt_succ_self _)]
      split <;> omega
    · rw [h n (Nat.lt_succ_self _) hm]
      by_cases hl : m < n
      · rw [if_pos hl, if_pos (show m < n + 1 by omega)]; omega
      · rw [if_neg hl, if_neg (show ¬ m < n + 1 by omega)]; omega
theorem cano_ne {s d : Int} (h0 : 0 ≤ s) (h1 : 0 ≤ s + d) (hd : d ≠ 0) (h2 : -65280 ≤ d) (h3 : d ≤ 65280) : cano (s + d) ≠ cano s := by
  unfold cano
  split <;> split <;> omega
/-- The bytes that a header's checksum is taken of. -/
def hsum (b : ByteArray) (h : Nat) : ByteArray := b.extract 0 10 ++ b.extract 12 h
theorem hsum_size {b : ByteArray} {h : Nat} (h1 : 20 ≤ h) (h2 : h ≤ b.size) : (hsum b h).size = h - 2 := by
  unfold hsum
  rw [ByteArray.size_append, cutP_size _ _ _ (by omega), cutP_size _ _ _ h2]
  omega
theorem hsum_txt {b : ByteArray} {h : Nat} (h1 : 20 ≤ h) (h2 : h ≤ b.size) {j : Nat} (hj : j < h - 2) : txt (hsum b h) j = if j < 10 then txt b j else txt b (j + 2) := by
  unfold hsum
  have hz : (b.extract 0 10).size = 10 := by rw [cutP_size _ _ _ (by omega)]
  by_cases e : j < 10
  · rw [if_pos e, txt_left _ _ (by omega), txt_cutP _ _ _ _ (by omega) (by omega), Nat.zero_add]
  · obtain ⟨i, rfl⟩ : ∃ i, j = 10 + i := ⟨j - 10, by omega⟩
    rw [if_neg e, txt_right _ _ hz, txt_cutP _ _ _ _ (by omega) h2]
    congr 1
    omega
theorem hsum_ne {b c : ByteArray} {h k : Nat} (hs : c.size = b.size) (h1 : 20 ≤ h) (h2 : h ≤ b.size) (hk : k < h) (hk2 : k < 10 ∨ 12 ≤ k) (hne : txt c k ≠ txt b k) (he : ∀ j, j ≠ k → txt c j = txt b j) : sumT (hsum c h) ≠ sumT (hsum b h) := by
  have z1 := hsum_size h1 h2
  have z2 := hsum_size (b := c) h1 (by omega)
  obtain ⟨m, hm⟩ : ∃ m, m = if k < 10 then k else k - 2 := ⟨_, rfl⟩
  have hml : m < h - 2 := by rw [hm]; split <;> omega
  have tm : ∀ x : ByteArray, x.size = b.size → txt (hsum x h) m = txt x k := fun x hx => by
    rw [hsum_txt h1 (by omega) hml, hm]
    by_cases e : k < 10
    · rw [if_pos e, if_pos e]
    · rw [if_neg e, if_neg (by omega), Nat.sub_add_cancel (by omega)]
  have key := sw_one (f := txt (hsum b h)) (g := txt (hsum c h)) (m := m) (h - 2) (fun j hj hjm => by
    rw [hsum_txt h1 (by omega) hj, hsum_txt h1 h2 hj]
    by_cases e : j < 10
    · rw [if_pos e, if_pos e]
      exact he j (fun e2 => hjm (by rw [hm, if_pos (by omega)]; exact e2))
    · rw [if_neg e, if_neg e]
      exact he (j + 2) (fun e2 => hjm (by rw [hm, if_neg (by omega)]; omega)))
  rw [if_pos hml, tm b rfl, tm c hs] at key
  have hb := txt_b b k
  have hc := txt_b c k
  have n1 := sw_nn (f := txt (hsum b h)) (fun i => (txt_b _ i).1) (h - 2)
  have n2 := sw_nn (f := txt (hsum c h)) (fun i => (txt_b _ i).1) (h - 2)
  unfold sumT
  rw [z1, z2, key]
  rw [key] at n2
  have := cano_ne n1 n2 (by split <;> omega) (by split <;> omega) (by split <;> omega)
  omega
/-- A header of version 4 of which one byte was changed. -/
theorem rd_turned {P : Pk} (h : rgtP P = true) (hf : fitP P = true) (h4 : P.sv = false) {c : ByteArray} {k : Nat} (hs : c.size = (bldT P).size) (hk0 : 0 < k) (hk : k < 20 + P.opts.size) (hne : txt c k ≠ txt (bldT P) k) (he : ∀ j, j ≠ k → txt c j = txt (bldT P) j) : rdP c = .err 72 ∨ rdP c = .err 73 := by
  have hz := bld_size h hf
  have hsz : sizeP P = headP P + P.pay.size := by unfold sizeP; rw [if_pos h]
  have hB : bldT P = fourB P := by unfold bldT; rw [h, hf, h4]; rfl
  obtain ⟨s0, _, s2, _, _, _, _, sa, ss, sb⟩ := four_says h hf h4 ByteArray.empty
  rw [app_empty, ← hB] at s0 s2 sa ss sb
  have hh : headP P = 20 + P.opts.size := by unfold headP; rw [if_neg (by rw [h4]; decide)]
  obtain ⟨_, _, _, _, _, _, _, _, hr⟩ := rgtP_iff.1 h
  rw [if_neg (by rw [h4]; decide)] at hr
  obtain ⟨_, ho4, hop, _⟩ := rgt4_iff.1 hr
  have e0 : (txt c 0).toNat = 64 + headP P / 4 := by rw [he 0 (by omega), s0]; exact Int.toNat_natCast _
  have hHS : sumT (hsum (bldT P) (headP P)) = ((getN (txt (bldT P)) 10 2 : Nat) : Int) := by
    unfold hsum
    rw [sa, sb, ss]
    exact (sum_nat _).1.symm
  have q4 : (64 + headP P / 4) / 16 = 4 := by omega
  have q5 : (64 + headP P / 4) % 16 * 4 = headP P := by omega
  have hrd : rdP c = rd4 c := by
    unfold rdP
    rw [if_neg (by omega), e0, q4, if_neg (by omega), if_neg (by omega), if_pos rfl]
  rw [hrd]
  unfold rd4
  simp only [e0, q5]
  by_cases hc : headP P < 20 ∨ getN (txt c) 2 2 < headP P ∨ c.size < getN (txt c) 2 2
  · rw [if_pos hc]; exact .inl rfl
  · rw [if_neg hc, if_pos]
    · exact .inr rfl
    show sumT (hsum c (headP P)) ≠ _
    by_cases hk2 : k < 10 ∨ 12 ≤ k
    · have n1 := hsum_ne (h := headP P) hs (by omega) (by omega) (by omega) hk2 hne he
      have e1 : getN (txt c) 10 2 = getN (txt (bldT P)) 10 2 := getN_congr (fun i hi => he _ (by omega))
      rw [e1, ← hHS]
      exact n1
    · have e1 : hsum c (headP P) = hsum (bldT P) (headP P) := by
        refine txt_ext ?_ (fun j hj => ?_)
        · rw [hsum_size (by omega) (by omega), hsum_size (by omega) (by omega)]
        · rw [hsum_size (by omega) (by omega)] at hj
          rw [hsum_txt (by omega) (by omega) hj, hsum_txt (by omega) (by omega) hj]
          by_cases e : j < 10
          · rw [if_pos e, if_pos e]
            exact he _ (by omega)
          · rw [if_neg e, if_neg e]
            exact he _ (by omega)
      rw [e1, hHS]
      have a1 := txt_b c 10
      have a2 := txt_b c 11
      have a3 := txt_b (bldT P) 10
      have a4 := txt_b (bldT P) 11
      rw [getN_two, getN_two, show 10 + 1 = 11 from rfl]
      intro ee
      have hk3 : k = 10 ∨ k = 11 := by omega
      rcases hk3 with rfl | rfl
      · have := he 11 (by decide)
        exact hne (by omega)
      · have := he 10 (by decide)
        exact hne (by omega)
theorem byt_congr {v : Bool} {b b' : Nat → Int} (h : ∀ i, i < 16 → b i = b' i) (hv : validF v b = true) (hv' : validF v b' = true) : bytT v b = bytT v b' := by
  rw [bytT_ok hv, bytT_ok hv']
  exact mkS_congr (fun j hj => h j (by cases v <;> simp at hj <;> omega))
theorem exB_congr {P Q : Pk} (h1 : P.proto = Q.proto) (h2 : P.cut = Q.cut) (h3 : P.off = Q.off) (h4 : P.more = Q.more) (h5 : P.id = Q.id) : ∀ l : List Ex, nextK P l = nextK Q l ∧ exB P l = exB Q l
  | [] => by
    unfold nextK exB tailK cuB
    rw [h1, h2, h3, h4, h5]
    exact ⟨rfl, rfl⟩
  | x :: l => by
    have ih := exB_congr h1 h2 h3 h4 h5 l
    unfold exB
    rw [ih.1, ih.2]
    exact ⟨rfl, rfl⟩
theorem sam_bld {P Q : Pk} (hs : samP P Q = true) (h : rgtP P = true) (hf : fitP P = true) (h' : rgtP Q = true) (hf' : fitP Q = true) : bldT P = bldT Q := by
  obtain ⟨e1, e2, e3, e4, e5, e6, e7, e8, e9, e10, e11, e12, e13, e14, e15, e16⟩ := samP_iff.1 hs
  have r1 := rgtP_iff.1 h
  have r2 := rgtP_iff.1 h'
  have b1 : bytT P.sv P.sb = bytT Q.sv Q.sb := by rw [e1]; exact byt_congr e2 (by rw [← e1]; exact r1.1) r2.1
  have b2 : bytT P.dv P.db = bytT Q.dv Q.db := by rw [e3]; exact byt_congr e4 (by rw [← e3]; exact r1.2.1) r2.2.1
  have hx := exB_congr e5 e15 e9 e10 e8 P.exts
  have hh : headP P = headP Q := by unfold headP; rw [e1, e12, e14, e15]
  have ea : a4 P = a4 Q := by unfold a4; rw [hh, e7, e16, e8, e9, e10, e11, e6, e5]
  have eb : b4 P = b4 Q := by unfold b4; rw [b1, b2, e12]
  have e4' : fourB P = fourB Q := by unfold fourB; rw [ea, eb, e16]
  have e6h : hd6 P = hd6 Q := by
    have q : nextK P P.exts = nextK Q Q.exts := by rw [hx.1, e14]
    unfold hd6
    rw [q, b1, b2, hh, e6, e7, e13, e16]
  have e6' : sixB P = sixB Q := by
    have q : exB P P.exts = exB Q Q.exts := by rw [hx.2, e14]
    unfold sixB
    rw [e6h, q, e16]
  unfold bldT
  rw [h, hf, h', hf', e1, e4', e6']
theorem sam_sym {P Q : Pk} (h : samP P Q = true) : samP Q P = true := by
  obtain ⟨e1, e2, e3, e4, e5, e6, e7, e8, e9, e10, e11, e12, e13, e14, e15, e16⟩ := samP_iff.1 h
  exact samP_iff.2 ⟨e1.symm, fun i hi => (e2 i hi).symm, e3.symm, fun i hi => (e4 i hi).symm, e5.symm, e6.symm, e7.symm, e8.symm, e9.symm, e10.symm, e11.symm, e12.symm, e13.symm, e14.symm, e15.symm, e16.symm⟩
theorem sam_trans {P Q R : Pk} (h : samP P Q = true) (h' : samP Q R = true) : samP P R = true := by
  obtain ⟨e1, e2, e3, e4, e5, e6, e7, e8, e9, e10, e11, e12, e13, e14, e15, e16⟩ := samP_iff.1 h
  obtain ⟨f1, f2, f3, f4, f5, f6, f7, f8, f9, f10, f11, f12, f13, f14, f15, f16⟩ := samP_iff.1 h'
  exact samP_iff.2 ⟨e1.trans f1, fun i hi => (e2 i hi).trans (f2 i hi), e3.trans f3, fun i hi => (e4 i hi).trans (f4 i hi), e5.trans f5, e6.trans f6, e7.trans f7, e8.trans f8, e9.trans f9, e10.trans f10, e11.trans f11, e12.trans f12, e13.trans f13, e14.trans f14, e15.trans f15, e16.trans f16⟩
theorem sam_self (P : Pk) : samP P P = true := samP_iff.2 ⟨rfl, fun _ _ => rfl, rfl, fun _ _ => rfl, rfl, rfl, rfl, rfl, rfl, rfl, rfl, rfl, rfl, rfl, rfl, rfl⟩
/-- No two packets have one text of bytes. -/
theorem bld_apart {P Q : Pk} (hO : PkOk P) (hO' : PkOk Q) (h : rgtP P = true) (hf : fitP P = true) (h' : rgtP Q = true) (hf' : fitP Q = true) : decide (bldT P = bldT Q) = samP P Q := by
  cases hs : samP P Q
  · refine decide_eq_false (fun e => ?_)
    obtain ⟨P', p1, p2⟩ := rd_bld hO h hf ByteArray.empty
    obtain ⟨Q', q1, q2⟩ := rd_bld hO' h' hf' ByteArray.empty
    rw [← e, p1] at q1
    injection q1 with q1
    subst q1
    rw [sam_trans p2 (sam_sym q2)] at hs
    cases hs
  · exact decide_eq_true (sam_bld hs h hf h' hf')
end Go.Proofs.Ytdlepeogmjmleaa
