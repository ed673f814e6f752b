/-
  Own text. Parse of the program.
-/
import Derived.Test.YtdlepeogmjmleabJ6
import Derived.Test.YtdlepeogmjmleabJ4
import Derived.Test.YtdlepeogmjmleabJ5
import Derived.Deep.MidRow
import Derived.Test.YtdlepeogmjmleabRows
import Derived.ChangeSlices
import Derived.Deep.Slices
import Derived.Deep.SlicePairs
import Derived.ChangeSame
import Derived.OpenShut
import Derived.ProofKit
import Derived.SizedLaws
import Derived.Stop.Joined
namespace Go.Proofs.Ytdlepeogmjmleab
open Go.RowKit Go.Proofs
set_option maxRecDepth 100000
/-- What Parse$1 leaves in the packet's block. -/
def PLeft (w0 : Nat) (gp : Nat) (R : Rd) (x : Int) (w' : World) : Prop :=
  (R = .err x ∧ SAt w' gp 27 46 (pkV zeroP (.slice none 0 0))) ∨ ∃ Q v Z, R = .ok Q ∧ x = 0 ∧ SAt w' gp 27 46 (pkV Q v) ∧ w'.ownsRow w0 45 2 v Q.exts.length (rX 2 Z Q.exts.length) ∧ (∀ j x, Q.exts[j]? = some x → ∀ f, f < 2 → Z j f = exV x f)
theorem parse1_run (gb gp : Nat) (b : ByteArray) (w : World) (hb : w.cell? ⟨gb, 0, none⟩ = some (.string b)) (hp : SAt w gp 27 46 (pkV zeroP (.slice none 0 0))) (hsm : b.size < 4611686018427387904) :
    Calls Try.prog 17 #[.pointer (some ⟨gb, 0, none⟩), .pointer (some ⟨gp, 0, none⟩)] w fun e w' => Touch (fun k => k = gp) w w' ∧ ∃ x, ((e = .returned (.tuple #[]) ∧ x = 0) ∨ e = gup x) ∧ PLeft w.heap.size gp (rdP b) x w' := by
  have cb := ldPs hb
  have HRD := Hid.mk (read_run b w hsm)
  generalize rdP b = R at *
  go_enter Try.func17, Try.ntmps17
  go_wp2_with (refine wl_value rfl (exec_ld rfl (by rfl) cb) ?_)
  refine HRD.out.mono ?_
  rintro e u2 ⟨hB2, ⟨x, hx, rfl⟩ | ⟨Q, v, Z, hQ, rfl, ow, hZ⟩⟩
  · exact ⟨rfl, tou_bel hB2, x, .inr rfl, .inl ⟨hx, hp.kept hB2⟩⟩
  have HQ := Hid.mk hQ
  have HOW := Hid.mk ow
  have HZZ := Hid.mk hZ
  have hon : v.oneCell' = true := by
    obtain ⟨_, _, e, _⟩ := ownM_shape ow
    rw [e]
    rfl
  have p2 := hp.kept hB2
  have l := heap_lt hp
  clear hQ ow hZ
  go_wp2_with (refine st_stO rfl rfl isPk (fun i => pkV_one hon i) p2 (by rfl) (by rfl) ?_; intro u3 q3 o3; refine Hid.out ?_)
  refine Hid.mk ?_
  have tf : Touch (fun k => k = gp) w u3 := (tou_bel hB2).tr (tou_only o3)
  have own := ownM_block HOW.out (fun q hq => o3.block q (by have := ownM_base HOW.out q hq; omega))
  go_wp2_with fail
  exact bodyPost_end (results_none rfl _ _ _) rfl ⟨tf, 0, .inl ⟨rfl, rfl⟩, .inr ⟨Q, v, Z, HQ.out, rfl, q3, own, HZZ.out⟩⟩
theorem en_P1 (args : Array Value) (u : World) : (callFunc 17 args).run Try.prog u = .ok (.enter 17 args) u := by kernel_rfl
theorem Parse_run (b : ByteArray) (w : World) (hsm : b.size < 4611686018427387904) : Calls Try.prog 8 #[.string b] w fun e w' => Below w.heap.size w w' ∧ ∃ Q v x, e = .returned (.tuple #[.agg (SC 46 (pkV Q v)), .int .i64 x]) ∧ ((rdP b = .err x ∧ Q = zeroP ∧ v = .slice none 0 0) ∨ ∃ Z, rdP b = .ok Q ∧ x = 0 ∧ w'.ownsRow w.heap.size 45 2 v Q.exts.length (rX 2 Z Q.exts.length) ∧ (∀ j x, Q.exts[j]? = some x → ∀ f, f < 2 → Z j f = exV x f)) := by
  have hmf : ∀ (fn : Fn) (first cap : Array Value) (w : World), (Instr.makeFunc fn first cap).run Try.prog w = .ok (.func fn first cap) w := fun _ _ _ _ => rfl
  have hc0 : (w.alloc (.cells #[.string b] 9)).heap[w.heap.size]? = some (.cells #[.string b] 9 (0, 0)) := heap_alloc_new w _
  have hB0 : Below w.heap.size w (w.alloc (.cells #[.string b] 9)) := (Below.refl _ w).alloc (Nat.le_refl _) _
  go_enter Try.func8, Try.ntmps8
  go_wp2_with (refine wl_alO rfl rfl zeroPk ?_; intro g2 u2 hg2 q2 hB2; refine Hid.out ?_)
  refine Hid.mk ?_
  have s0 := hB0.size
  have hbx := heap_lt hc0
  generalize (w.alloc (.cells #[.string b] 9)) = w1 at *
  have hc2 := bheap hB2 hc0 hbx
  have hBa := hB0.trans (hB2.mono s0)
  have s2 := hB2.size
  go_wp2_with (refine wl_alO rfl rfl zeroPk ?_; intro g4 u4 hg4 q4 hB4; refine Hid.out ?_)
  refine Hid.mk ?_
  have hc4 := bheap hB4 hc2 (heap_lt hc2)
  have q2b := q2.kept hB4
  have hBb := hBa.trans (hB4.mono hBa.size)
  have l4 := heap_lt q4
  have lc := heap_lt hc4
  have HAT := Hid.mk (attempt_run 17 #[.pointer (some ⟨w.heap.size, 0, none⟩), .pointer (some ⟨g4, 0, none⟩)] (fun k => k = g4) (PLeft (u4.heap.size + 1) g4 (rdP b)) u4 en_P1 (fun x e => by omega) (fun u hb hlt => (parse1_run w.heap.size g4 b u (by rw [World.cell?_of_block (w := u4) (hb.block _ lc)]; exact (one_cell hc4).1) (q4.kept hb) hsm).mono (fun e w2 q => ⟨q.1, by
    obtain ⟨_, x, h1, h2⟩ := q
    refine ⟨x, h1, ?_⟩
    rcases h2 with h2 | ⟨Q, v, Z, k1, k2, k3, k4, k5⟩
    · exact .inl h2
    · exact .inr ⟨Q, v, Z, k1, k2, k3, ownM_mono k4 hlt, k5⟩⟩)))
  go_wp2_with fail
  refine HAT.out.mono ?_
  rintro e u5 ⟨x, v5, rfl, hL, t5, o5⟩
  have q2c : SAt u5 g2 _ _ _ := (t5.block g2 (heap_lt q2b) (by have := heap_lt q2; omega)).trans q2b
  have hBc : Below w.heap.size w u5 := ⟨t5.os.trans hBb.os, t5.tape.trans hBb.tape, t5.output.trans hBb.output, Nat.le_trans hBb.size t5.size, fun k hk => (t5.block k (Nat.lt_of_lt_of_le hk hBb.size) (by omega)).trans (hBb.block k hk)⟩
  obtain ⟨Q, v, p5, hon, HF⟩ : ∃ Q v, SAt u5 g4 27 46 (pkV Q v) ∧ v.oneCell' = true ∧ Hid ((rdP b = .err x ∧ Q = zeroP ∧ v = .slice none 0 0) ∨ ∃ Z, rdP b = .ok Q ∧ x = 0 ∧ u5.ownsRow (u4.heap.size + 1) 45 2 v Q.exts.length (rX 2 Z Q.exts.length) ∧ (∀ j x, Q.exts[j]? = some x → ∀ f, f < 2 → Z j f = exV x f)) := by
    rcases hL with ⟨h1, h2⟩ | ⟨Q, v, Z, h1, h2, h3, h4, h5⟩
    · exact ⟨zeroP, _, (o5.block g4 (by omega)).trans h2, rfl, Hid.mk (.inl ⟨h1, rfl, rfl⟩)⟩
    · refine ⟨Q, v, (o5.block g4 (by omega)).trans h3, ?_, Hid.mk (.inr ⟨Z, h1, h2, ownM_block h4 (fun q hq => o5.block q (by have := ownM_base h4 q hq; omega)), h5⟩)⟩
      obtain ⟨_, _, e, _⟩ := ownM_shape h4
      rw [e]
      rfl
  clear hL HAT
  go_wp2_with (first | (refine wl_value rfl (look_st rfl isPk p5 (by rfl)) ?_) | (refine st_stO rfl rfl isPk (fun i => pkV_one hon i) q2c (by rfl) (by rfl) ?_; intro u6 q6 o6; refine Hid.out ?_))
  refine Hid.mk ?_
  go_wp2_with fail
  have lg2 := heap_lt q2b
  refine bodyPost_ret (res_ct rfl isPk q6 (by rfl) (by rfl)) rfl ⟨hBc.trans (o6.below (by omega)), Q, v, x, rfl, ?_⟩
  rcases HF.out with h | ⟨Z, h1, h2, h3, h4⟩
  · exact .inl h
  · exact .inr ⟨Z, h1, h2, ownM_mono (ownM_block h3 (fun q hq => o6.block q (by have := ownM_base h3 q hq; omega))) (by have := hBb.size; omega), h4⟩
end Go.Proofs.Ytdlepeogmjmleab
/-
  Own text. What was read may be, and is built anew as the very bytes that were read.
-/
namespace Go.Proofs.Ytdlepeogmjmleab
open Go.RowKit Go.Proofs
set_option maxRecDepth 100000
theorem txt_n (b : ByteArray) (j : Nat) : ((txt b j).toNat : Int) = txt b j ∧ (txt b j).toNat < 256 := by
  have := txt_b b j
  omega
theorem byts_fr (T : ByteArray) : Byts 16 (frB T) := frB_b T
theorem exsOk_app : ∀ {l m : List Ex} {i : Nat}, exsOk l i = true → exsOk m (i + l.length) = true → exsOk (l ++ m) i = true
  | [], _, _, _, h => h
  | x :: l, m, i, h1, h2 => by
    rw [List.cons_append]
    unfold exsOk at h1 ⊢
    rw [Bool.and_eq_true] at h1 ⊢
    exact ⟨h1.1, exsOk_app h1.2 (by rw [List.length_cons] at h2; rw [show i + 1 + l.length = i + (l.length + 1) by omega]; exact h2)⟩
theorem getN_lt2 (b : ByteArray) (a : Nat) : getN (txt b) a 2 < 65536 := getN_lt (fun j => txt_b b j) a 2
theorem getN_lt4 (b : ByteArray) (a : Nat) : getN (txt b) a 4 < 4294967296 := getN_lt (fun j => txt_b b j) a 4
/-- What the reader of headers tells. -/
theorem rdEx_says {p P : Pk} (hpc : p.cut = false) (hpo : p.off = 0) (hpm : p.more = false) (hpi : p.id = 0) : ∀ (n : Nat) (acc : List Ex) (k : Int) (rest : ByteArray), 0 ≤ k → k ≤ 255 → rdEx p n acc k rest = .ok P →
    ∃ l, P = { p with exts := acc ++ l, cut := P.cut, off := P.off, more := P.more, id := P.id, proto := P.proto, pay := P.pay } ∧ k = nextK P l ∧ rest = exB P l ++ P.pay ∧ exsOk l acc.length = true ∧ isHd P.proto = false ∧ (0 ≤ P.proto ∧ P.proto ≤ 255) ∧ (0 ≤ P.off ∧ P.off ≤ 65528) ∧ P.off % 8 = 0 ∧ (0 ≤ P.id ∧ P.id ≤ 4294967295) ∧ (P.cut = true ∨ (P.id = 0 ∧ P.off = 0 ∧ P.more = false))
  | 0, _, _, _, _, _, h => by unfold rdEx at h; cases h
  | n + 1, acc, k, rest, hk0, hk1, h => by
    unfold rdEx at h
    by_cases c1 : isHd k = false
    · rw [if_pos c1] at h
      injection h with h
      subst h
      refine ⟨[], ?_, ?_, ?_, rfl, c1, ⟨hk0, hk1⟩, ?_, ?_, ?_, .inr ⟨hpi, hpo, hpm⟩⟩
      · simp
      · unfold nextK tailK
        rw [if_neg (by rw [hpc]; decide)]
      · unfold exB
        rw [if_neg (by rw [hpc]; decide), empty_app]
      · show 0 ≤ p.off ∧ p.off ≤ 65528
        omega
      · show p.off % 8 = 0
        omega
      · show 0 ≤ p.id ∧ p.id ≤ 4294967295
        omega
    · rw [if_neg c1] at h
      by_cases c2 : k ≠ 44 ∧ mayB k acc.length = false
      · rw [if_pos c2] at h; cases h
      · rw [if_neg c2] at h
        by_cases c3 : rest.size < 8
        · rw [if_pos c3] at h; cases h
        · rw [if_neg c3] at h
          by_cases c4 : k = 44
          · rw [if_pos c4] at h
            by_cases c5 : txt rest 1 ≠ 0 ∨ getN (txt rest) 2 2 % 8 / 2 ≠ 0 ∨ isHd (txt rest 0) = true
            · rw [if_pos c5] at h; cases h
            · rw [if_neg c5] at h
              injection h with h
              have d1 : txt rest 1 = 0 := Classical.byContradiction (fun e => c5 (.inl e))
              have d2 : getN (txt rest) 2 2 % 8 / 2 = 0 := Classical.byContradiction (fun e => c5 (.inr (.inl e)))
              have d3 : isHd (txt rest 0) = false := by
                cases e : isHd (txt rest 0)
                · rfl
                · exact absurd (.inr (.inr e)) c5
              have b0 := txt_b rest 0
              have g2 := getN_lt2 rest 2
              have g4 := getN_lt4 rest 4
              have e0 : P.proto = txt rest 0 := by rw [← h]
              have e1 : P.off = ((getN (txt rest) 2 2 / 8 * 8 : Nat) : Int) := by rw [← h]
              have e2 : P.more = decide (getN (txt rest) 2 2 % 2 = 1) := by rw [← h]
              have e3 : P.id = (getN (txt rest) 4 4 : Int) := by rw [← h]
              have e4 : P.pay = rest.extract 8 rest.size := by rw [← h]
              have e5 : P.cut = true := by rw [← h]
              refine ⟨[], by rw [← h]; simp, ?_, ?_, rfl, by rw [e0]; exact d3, by rw [e0]; omega, by rw [e1]; omega, by rw [e1]; omega, by rw [e3]; omega, .inl e5⟩
              · unfold nextK tailK
                rw [if_pos e5, c4]
              · unfold exB cuB
                rw [if_pos e5, e0, e1, e3, e4, put_at rest (by omega)]
                have q1 : putT 0 1 = rest.extract 1 2 := by
                  have := put_at rest (a := 1) (by omega)
                  rw [d1] at this
                  exact this
                have q2 : ((getN (txt rest) 2 2 / 8 * 8 : Nat) : Int).toNat + bN P.more 1 = getN (txt rest) 2 2 := by
                  rw [e2, Int.toNat_natCast]
                  unfold bN
                  by_cases e : getN (txt rest) 2 2 % 2 = 1
                  · rw [if_pos (by simp [e])]
                    omega
                  · rw [if_neg (by simp [e])]
                    omega
                rw [q1, q2, Int.toNat_natCast, put_getN rest (by omega), put_getN rest (by omega), cutP_join rest (by decide) (by decide) (by omega), cutP_join rest (by decide) (by decide) (by omega), cutP_join rest (by decide) (by decide) (by omega), cutP_join rest (by omega) (by omega) (Nat.le_refl _), cutP_all]
          · rw [if_neg c4] at h
            by_cases c5 : rest.size < ((txt rest 1).toNat + 1) * 8
            · rw [if_pos c5] at h; cases h
            · rw [if_neg c5] at h
              have b0 := txt_b rest 0
              have n1 := txt_n rest 1
              obtain ⟨l, hP, hk, hr, hx, hrest⟩ := rdEx_says hpc hpo hpm hpi n _ _ _ b0.1 (by omega) h
              have hkind : k = 0 ∨ k = 43 ∨ k = 60 := by
                have := c1
                rw [Bool.not_eq_false, isHd_iff] at this
                omega
              have hm : mayB k acc.length = true := by
                cases e : mayB k acc.length
                · exact absurd ⟨c4, e⟩ c2
                · rfl
              have zb : (rest.extract 2 (((txt rest 1).toNat + 1) * 8)).size = ((txt rest 1).toNat + 1) * 8 - 2 := cutP_size _ _ _ (by omega)
              refine ⟨⟨k, rest.extract 2 (((txt rest 1).toNat + 1) * 8)⟩ :: l, ?_, rfl, ?_, ?_, hrest⟩
              · rw [List.append_assoc, List.singleton_append] at hP
                exact hP
              · show rest = putT (nextK P l).toNat 1 ++ putT ((2 + (rest.extract 2 (((txt rest 1).toNat + 1) * 8)).size) / 8 - 1) 1 ++ rest.extract 2 (((txt rest 1).toNat + 1) * 8) ++ exB P l ++ P.pay
                have e1 : (2 + (rest.extract 2 (((txt rest 1).toNat + 1) * 8)).size) / 8 - 1 = (txt rest 1).toNat := by rw [zb]; omega
                rw [e1, ← hk, app_assoc _ (exB P l), ← hr, put_at rest (by omega), put_at rest (by omega), cutP_join rest (by decide) (by decide) (by omega), cutP_join rest (by omega) (by omega) (by omega), cutP_join rest (by omega) (by omega) (Nat.le_refl _), cutP_all]
              · unfold exsOk
                rw [Bool.and_eq_true]
                rw [List.length_append] at hx
                refine ⟨exOk_iff.2 ⟨hkind, mayB_iff.1 hm, ?_, ?_⟩, hx⟩
                · show (rest.extract 2 _).size % 8 = 6
                  rw [zb]
                  omega
                · show (rest.extract 2 _).size ≤ 2046
                  rw [zb]
                  omega
/-- What was read may be; its bytes are the first ones. -/
theorem bld_rd4 {b : ByteArray} {P : Pk} (hb : 20 ≤ b.size) (hv : (txt b 0).toNat / 16 = 4) (h : rd4 b = .ok P) : PkOk P ∧ rgtP P = true ∧ fitP P = true ∧ headP P + P.pay.size ≤ b.size ∧ fourB P = b.extract 0 (headP P + P.pay.size) ∧ P.sv = false := by
  unfold rd4 at h
  simp only at h
  obtain ⟨h0, hh0⟩ : ∃ h0, (txt b 0).toNat % 16 * 4 = h0 := ⟨_, rfl⟩
  obtain ⟨sz, hsz⟩ : ∃ sz, getN (txt b) 2 2 = sz := ⟨_, rfl⟩
  rw [hh0, hsz] at h
  by_cases c1 : h0 < 20 ∨ sz < h0 ∨ b.size < sz
  · rw [if_pos c1] at h; cases h
  · rw [if_neg c1] at h
    by_cases c2 : sumT (b.extract 0 10 ++ b.extract 12 h0) ≠ (getN (txt b) 10 2 : Int)
    · rw [if_pos c2] at h; cases h
    · rw [if_neg c2] at h
      by_cases c3 : 32768 ≤ getN (txt b) 6 2
      · rw [if_pos c3] at h; cases h
      · rw [if_neg c3] at h
        injection h with h
        have c2' : sumT (b.extract 0 10 ++ b.extract 12 h0) = (getN (txt b) 10 2 : Int) := Classical.byContradiction c2
        have n0 := txt_n b 0
        have n1 := txt_b b 1
        have n8 := txt_b b 8
        have n9 := txt_b b 9
        have g4 := getN_lt2 b 4
        have gs := getN_lt2 b 2
        have e1 : P.sv = false := by rw [← h]
        have e2 : P.dv = false := by rw [← h]
        have e3 : P.sb = frB (b.extract 12 16) := by rw [← h]
        have e4 : P.db = frB (b.extract 16 20) := by rw [← h]
        have e5 : P.proto = txt b 9 := by rw [← h]
        have e6 : P.hop = txt b 8 := by rw [← h]
        have e7 : P.cls = txt b 1 := by rw [← h]
        have e8 : P.id = (getN (txt b) 4 2 : Int) := by rw [← h]
        have e9 : P.off = ((getN (txt b) 6 2 % 8192 * 8 : Nat) : Int) := by rw [← h]
        have ea : P.more = decide (getN (txt b) 6 2 / 8192 % 2 = 1) := by rw [← h]
        have eb : P.still = decide (getN (txt b) 6 2 / 16384 = 1) := by rw [← h]
        have ec : P.opts = b.extract 20 h0 := by rw [← h]
        have ed : P.flow = 0 := by rw [← h]
        have ee : P.exts = [] := by rw [← h]
        have ef : P.cut = false := by rw [← h]
        have eg : P.pay = b.extract h0 sz := by rw [← h]
        clear h
        have z1 : (b.extract 12 16).size = 4 := cutP_size _ _ _ (by omega)
        have z2 : (b.extract 16 20).size = 4 := cutP_size _ _ _ (by omega)
        have z3 : P.opts.size = h0 - 20 := by rw [ec]; exact cutP_size _ _ _ (by omega)
        have z4 : P.pay.size = sz - h0 := by rw [eg]; exact cutP_size _ _ _ (by omega)
        have hH : headP P = h0 := by unfold headP; rw [if_neg (by rw [e1]; decide), z3]; omega
        have hT : headP P + P.pay.size = sz := by rw [hH, z4]; omega
        have v1 : validF P.sv P.sb = true := by rw [e1, e3]; exact valid_fr z1
        have v2 : validF P.dv P.db = true := by rw [e2, e4]; exact valid_fr z2
        have r : rgtP P = true := by
          refine rgtP_iff.2 ⟨v1, v2, by rw [e1, e2], by rw [e5]; omega, by rw [e6]; omega, by rw [e7]; omega, by rw [e9]; omega, by rw [e9]; omega, ?_⟩
          rw [if_neg (by rw [e1]; decide)]
          exact rgt4_iff.2 ⟨by rw [e8]; omega, by rw [z3]; omega, by rw [z3]; omega, ed, ee, ef⟩
        have f : fitP P = true := by
          unfold fitP
          rw [if_neg (by rw [e1]; decide), hT]
          simp
          omega
        have qa : a4 P = b.extract 0 10 := by
          unfold a4
          have k0 : 64 + headP P / 4 = (txt b 0).toNat := by rw [hH]; omega
          have k1 : headP P + P.pay.size = getN (txt b) 2 2 := by rw [hT, hsz]
          have k2 : P.off.toNat / 8 + bN P.more 8192 + bN P.still 16384 = getN (txt b) 6 2 := by
            rw [e9, ea, eb, Int.toNat_natCast]
            generalize getN (txt b) 6 2 = n at c3
            have hb1 : bN (decide (n / 8192 % 2 = 1)) 8192 = n / 8192 % 2 * 8192 := by
              unfold bN
              by_cases e : n / 8192 % 2 = 1
              · rw [if_pos (by simp [e])]; omega
              · rw [if_neg (by simp [e])]; omega
            have hb2 : bN (decide (n / 16384 = 1)) 16384 = n / 16384 * 16384 := by
              unfold bN
              by_cases e : n / 16384 = 1
              · rw [if_pos (by simp [e])]; omega
              · rw [if_neg (by simp [e])]; omega
            rw [hb1, hb2]
            omega
          rw [k0, k1, k2, e7, e8, e6, e5, Int.toNat_natCast, put_at b (by omega), put_at b (by omega), put_getN b (by omega), put_getN b (by omega), put_getN b (by omega), put_at b (by omega), put_at b (by omega)]
          rw [cutP_join b (by decide) (by decide) (by omega), cutP_join b (by decide) (by decide) (by omega), cutP_join b (by decide) (by decide) (by omega), cutP_join b (by decide) (by decide) (by omega), cutP_join b (by decide) (by decide) (by omega), cutP_join b (by decide) (by decide) (by omega)]
        have qb : b4 P = b.extract 12 h0 := by
          unfold b4
          rw [e1, e2, e3, e4, ec, byt_fr (v := false) (by simpa using z1), byt_fr (v := false) (by simpa using z2), cutP_join b (by decide) (by decide) (by omega), cutP_join b (by decide) (by omega) (by omega)]
        refine ⟨⟨by rw [e3]; exact byts_fr _, by rw [e4]; exact byts_fr _⟩, r, f, by omega, ?_, e1⟩
        rw [hT]
        unfold fourB
        rw [qa, qb, c2', Int.toNat_natCast, put_getN b (by omega), eg, cutP_join b (by decide) (by decide) (by omega), cutP_join b (by decide) (by omega) (by omega), cutP_join b (by omega) (by omega) (by omega)]
set_option maxHeartbeats 1600000 in
theorem bld_rd {b : ByteArray} {P : Pk} (h : rdP b = .ok P) : PkOk P ∧ rgtP P = true ∧ fitP P = true ∧ sizeP P ≤ b.size ∧ bldT P = b.extract 0 (sizeP P) := by
  unfold rdP at h
  by_cases c0 : b.size = 0
  · rw [if_pos c0] at h; cases h
  rw [if_neg c0] at h
  by_cases c1 : (txt b 0).toNat / 16 ≠ 4 ∧ (txt b 0).toNat / 16 ≠ 6
  · rw [if_pos c1] at h; cases h
  rw [if_neg c1] at h
  by_cases c2 : b.size < 20 ∨ ((txt b 0).toNat / 16 = 6 ∧ b.size < 40)
  · rw [if_pos c2] at h; cases h
  rw [if_neg c2] at h
  by_cases c3 : (txt b 0).toNat / 16 = 4
  · rw [if_pos c3] at h
    obtain ⟨hO, r, f, hs, hB, h4⟩ := bld_rd4 (by omega) c3 h
    refine ⟨hO, r, f, ?_, ?_⟩
    · unfold sizeP
      rw [if_pos r]
      exact hs
    · unfold bldT sizeP
      rw [r, f, if_pos (by decide), if_pos rfl, if_neg (by rw [h4]; decide)]
      exact hB
  rw [if_neg c3] at h
  by_cases c4 : b.size < 40 + getN (txt b) 4 2
  · rw [if_pos c4] at h; cases h
  rw [if_neg c4] at h
  have n6 := txt_b b 6
  have n7 := txt_b b 7
  obtain ⟨sz, hsz⟩ : ∃ sz, getN (txt b) 4 2 = sz := ⟨_, rfl⟩
  have gs := getN_lt2 b 4
  have g0 := getN_lt4 b 0
  rw [hsz] at h c4 gs
  obtain ⟨l, hP, hk, hr, hx, hpr, hpb, hof, ho8, hid, hcu⟩ := rdEx_says rfl rfl rfl rfl 5 [] _ _ n6.1 (by omega) h
  rw [List.nil_append] at hP
  have e1 : P.sv = true := by rw [hP]; rfl
  have e2 : P.dv = true := by rw [hP]; rfl
  have e3 : P.sb = frB (b.extract 8 24) := by rw [hP]; rfl
  have e4 : P.db = frB (b.extract 24 40) := by rw [hP]; rfl
  have e6 : P.hop = txt b 7 := by rw [hP]; rfl
  have e7 : P.cls = ((getN (txt b) 0 4 / 1048576 % 256 : Nat) : Int) := by rw [hP]; rfl
  have eb : P.still = false := by rw [hP]; rfl
  have ec : P.opts = ByteArray.empty := by rw [hP]; rfl
  have ed : P.flow = ((getN (txt b) 0 4 % 1048576 : Nat) : Int) := by rw [hP]; rfl
  have ee : P.exts = l := by rw [hP]
  clear hP h
  have z1 : (b.extract 8 24).size = 16 := cutP_size _ _ _ (by omega)
  have z2 : (b.extract 24 40).size = 16 := cutP_size _ _ _ (by omega)
  have hz := congrArg ByteArray.size hr
  rw [cutP_size _ _ _ (by omega), ByteArray.size_append, exB_size hx] at hz
  have hH : headP P = 40 + exLen l + (if P.cut = true then 8 else 0) := by unfold headP; rw [if_pos e1, ee]
  have hT : headP P + P.pay.size = 40 + sz := by omega
  have r : rgtP P = true := by
    refine rgtP_iff.2 ⟨by rw [e1]; exact valid_six _, by rw [e2]; exact valid_six _, by rw [e1, e2], hpb, by rw [e6]; omega, by rw [e7]; omega, hof, ho8, ?_⟩
    rw [if_pos e1]
    exact rgt6_iff.2 ⟨by rw [ed]; omega, by rw [ec]; rfl, eb, by rw [ee]; exact hx, hpr, hid, hcu⟩
  have f : fitP P = true := by
    unfold fitP
    rw [if_pos e1, hT]
    simp
    omega
  have hS : sizeP P = 40 + sz := by unfold sizeP; rw [if_pos r, hT]
  refine ⟨⟨by rw [e3]; exact byts_fr _, by rw [e4]; exact byts_fr _⟩, r, f, by omega, ?_⟩
  unfold bldT
  rw [r, f, if_pos (by decide), if_pos e1, hS]
  unfold sixB hd6
  have v6 : (txt b 0).toNat / 16 = 6 := by omega
  have gh := getN_high (fun j => txt_b b j) 0 4 1 (by decide)
  have e256 : (256 : Nat) ^ (4 - 1) = 16777216 := rfl
  rw [getN_one, e256] at gh
  have k0 : 1610612736 + P.cls.toNat * 1048576 + P.flow.toNat = getN (txt b) 0 4 := by
    rw [e7, ed, Int.toNat_natCast, Int.toNat_natCast]
    generalize getN (txt b) 0 4 = n at gh g0
    omega
  have k1 : headP P + P.pay.size - 40 = getN (txt b) 4 2 := by rw [hT, hsz]; omega
  rw [k0, k1, ee, ← hk, e6, e1, e2, e3, e4, app_assoc _ (exB P l), ← hr, byt_fr (v := true) (by simpa using z1), byt_fr (v := true) (by simpa using z2)]
  rw [put_getN b (by omega), put_getN b (by omega), put_at b (by omega), put_at b (by omega)]
  simp only [Nat.reduceAdd]
  rw [cutP_join b (a := 0) (m := 4) (e := 6) (by decide) (by decide) (by omega), cutP_join b (a := 0) (m := 6) (e := 7) (by decide) (by decide) (by omega), cutP_join b (a := 0) (m := 7) (e := 8) (by decide) (by decide) (by omega), cutP_join b (a := 0) (m := 8) (e := 24) (by decide) (by decide) (by omega), cutP_join b (a := 0) (m := 24) (e := 40) (by decide) (by decide) (by omega)]
  exact cutP_join b (Nat.zero_le _) (Nat.le_add_right _ _) (by omega)
end Go.Proofs.Ytdlepeogmjmleab
/-
  Own text. The document's num and read4: a packet of version 4 is read.
-/
namespace Go.Proofs.Ytdlepeogmjmleab
open Go.RowKit Go.Proofs
set_option maxRecDepth 100000
/-- How the document's reading ends. -/
def DEnd (w : World) (R : Rd) (e : Ending) (w' : World) : Prop :=
  Below w.heap.size w w' ∧ ∃ Q v x, e = .returned (.tuple #[.agg (SC 46 (pkV Q v)), .int .i64 x]) ∧ ((R = .err x ∧ Q = zeroP ∧ v = .slice none 0 0) ∨ ∃ Z, R = .ok Q ∧ x = 0 ∧ w'.ownsRow w.heap.size 45 2 v Q.exts.length (rX 2 Z Q.exts.length) ∧ (∀ j x, Q.exts[j]? = some x → ∀ f, f < 2 → Z j f = exV x f))
def phA (n : Nat) (l : List Value) (B : Nat) (j : Nat) (vv : Value) (w : World) : Prop := if j = n then ∃ gp, B ≤ gp ∧ vv = .pointer (some ⟨gp, 0, none⟩) ∧ SAt w gp 27 46 (pkV zeroP (.slice none 0 0)) else vv = l.getD j undef
theorem phA_kept {n : Nat} {l : List Value} {B j : Nat} {vv : Value} {w w' : World} (h : phA n l B j vv w) (hb : Below w.heap.size w w') : phA n l B j vv w' := by
  unfold phA at h ⊢
  split
  · rename_i e
    rw [if_pos e] at h
    obtain ⟨gp, h1, h2, h3⟩ := h
    exact ⟨gp, h1, h2, h3.kept hb⟩
  · rename_i e
    rw [if_neg e] at h
    exact h
/-- An address is stored into a packet. -/
theorem wl_stAd {ops : Array Oper} {rest : List Oper} {o : Oper} {a : Act} {w : World} {x y : Operand} {Q : Exit → Act → World → Prop} {g f : Nat} {P P' : Pk} {v : Value} {s : Bool} {b : Nat → Int} (ho : o.op = .store 24 x y) (hw : Region.wanted o (yielded ops a.tmps) = true) (hx : a.eval x = .pointer (some ⟨g, f, none⟩)) (hy : a.eval y = .agg (SC 17 (adV s b))) (hf : f + 17 ≤ 46)
    (hg : SAt w g 27 46 (pkV P v)) (hV : ∀ i, i < 46 → (if f ≤ i ∧ i < f + 17 then adV s b (i - f) else pkV P v i) = pkV P' v i)
    (h : ∀ w', SAt w' g 27 46 (pkV P' v) → Only g w w' → wpList Try.prog ops Q rest (a.put o.dst undef) w') : wpList Try.prog ops Q (o :: rest) a w := by
  refine wl_act hw ?_
  obtain ⟨h1, h2⟩ := SAt.mid hg (adV s b) f 17 hf
  exact wp_store_mid 24 x y ho g f (SC 17 (adV s b)) hx hy (by rw [SC_size]; exact SAt.there hg f 17 hf) (by rw [SC_size]; kernel_rfl) (SC_one (adV_one s b)) (h _ (h1.congr hV) h2)
theorem pk_upS (P : Pk) (v : Value) (s : Bool) (b : Nat → Int) : ∀ i, i < 46 → (if 0 ≤ i ∧ i < 0 + 17 then adV s b (i - 0) else pkV P v i) = pkV { P with sv := s, sb := b } v i := fun i _ => by
  unfold pkV
  by_cases h : i < 17
  · rw [if_pos ⟨Nat.zero_le _, by omega⟩, if_pos h]; rfl
  · rw [if_neg (by omega), if_neg h, if_neg h]; rfl
theorem pk_upD (P : Pk) (v : Value) (s : Bool) (b : Nat → Int) : ∀ i, i < 46 → (if 17 ≤ i ∧ i < 17 + 17 then adV s b (i - 17) else pkV P v i) = pkV { P with dv := s, db := b } v i := fun i _ => by
  unfold pkV
  by_cases h : i < 17
  · rw [if_neg (by omega), if_pos h, if_pos h]
  · by_cases h2 : i < 34
    · rw [if_pos (by omega), if_neg h, if_pos h2]
    · rw [if_neg (by omega), if_neg h, if_neg h2, if_neg h, if_neg h2]; rfl
def pk4d (c i o : Int) (m st : Bool) (h p : Int) (op py : ByteArray) : Pk := ⟨false, fun _ => 0, false, fun _ => 0, p, h, c, i, o, m, st, op, 0, [], false, py⟩
theorem run_bdD (c i o : Int) (m st : Bool) (h p : Int) (op py : ByteArray) (w : World) : (Instr.build 27 #[(4, .int .i64 c), (5, .int .i64 i), (6, .int .i64 o), (7, .bool m), (8, .bool st), (3, .int .i64 h), (2, .int .i64 p), (9, .string op), (13, .string py)]).run Try.prog w = .ok (.agg (SC 46 (pkV (pk4d c i o m st h p op py) (.slice none 0 0)))) w := by
  kernel_rfl
theorem exec_bdD {a : Act} {oo : Oper} {w : World} {x2 x3 x4 x5 x6 x7 x8 x9 xa : Operand} (ho : oo.op = .build 27 #[(4, x2), (5, x3), (6, x4), (7, x5), (8, x6), (3, x7), (2, x8), (9, x9), (13, xa)]) {c i h p o : Int} {m st : Bool} {op py : ByteArray} {Q4 : Pk}
    (h2 : a.eval x2 = .int .i64 c) (h3 : a.eval x3 = .int .i64 i) (h4 : a.eval x4 = .int .i64 o) (h5 : a.eval x5 = .bool m) (h6 : a.eval x6 = .bool st) (h7 : a.eval x7 = .int .i64 h) (h8 : a.eval x8 = .int .i64 p) (h9 : a.eval x9 = .string op) (ha : a.eval xa = .string py) (he : pk4d c i o m st h p op py = Q4) : (execOp a.eval oo).run Try.prog w = .ok (.value (.agg (SC 46 (pkV Q4 (.slice none 0 0))))) w := by
  subst he
  unfold execOp
  simp only [ho, List.map_toArray, List.map_cons, List.map_nil, h2, h3, h4, h5, h6, h7, h8, h9, ha, Sem.run_bind, run_bdD, Result.andThen_ok, Sem.run_pure]
end Go.Proofs.Ytdlepeogmjmleab
/-
  Own text. The document's exts: extension headers are read.
-/
namespace Go.Proofs.Ytdlepeogmjmleab
open Go.RowKit Go.Proofs
set_option maxRecDepth 100000
section
variable {gp B n nn : Nat} {P : Pk} {v : Value} {k : Int} {bd rest : ByteArray} {Z : Nat → Nat → Value} {u w w' : World} {L : Nat → Bool}
def bpS (gp B n : Nat) (P : Pk) (v : Value) (Z : Nat → Nat → Value) (u : World) (L : Nat → Bool) (w : World) : Prop :=
  SAt w gp 27 46 (pkV P v) ∧ Touch (fun k => v.ownBlock = some k) u w ∧ (L 8 = false → w.ownsRow B 45 2 v n (rX 2 Z n))
def bpF (gp B n nn : Nat) (v : Value) (k : Int) (bd rest : ByteArray) (Z : Nat → Nat → Value) (u : World) (L : Nat → Bool) (i : Nat) (val : Value) (w : World) : Prop :=
  match i with
  | 0 => val = .pointer (some ⟨gp, 43, none⟩)
  | 1 => val = v
  | 2 => val = .int .i64 k
  | 3 => val = .string rest
  | 4 => val = .int .i64 (nn : Int)
  | 5 => val = .string bd
  | 6 => val = .agg (SC 2 (exV ⟨k, bd⟩))
  | 7 => ∃ b, val = .slice (some ⟨b, 0, none⟩) 1 1 ∧ (L 8 = false → SAt w b 45 2 (exV ⟨k, bd⟩))
  | 8 => w.ownsRow B 45 2 val (n + 1) (rX 2 (setG Z n (exV ⟨k, bd⟩)) (n + 1)) ∧ (∀ q, val.ownBlock = some q → v.ownBlock = some q ∨ u.heap.size ≤ q)
  | _ => True
theorem apN_8 {i : Nat} (h : i ≠ 8) : apN i L 8 = L 8 := by unfold apN; rw [if_neg (fun e => h e.symm)]
theorem bpS_same {i : Nat} (h : i ≠ 8) (hS : bpS gp B n P v Z u L w) : bpS gp B n P v Z u (apN i L) w := by
  unfold bpS at hS ⊢
  rw [apN_8 h]
  exact hS
theorem bpF_same {i j : Nat} {val : Value} (h : i ≠ 8) (hF : bpF gp B n nn v k bd rest Z u L j val w) : bpF gp B n nn v k bd rest Z u (apN i L) j val w := by
  unfold bpF at hF ⊢
  rw [apN_8 h]
  exact hF
theorem bpS_grow {i : Nat} (h : i ≠ 8) (hS : bpS gp B n P v Z u L w) (hb : Below w.heap.size w w') : bpS gp B n P v Z u (apN i L) w' := by
  unfold bpS at hS ⊢
  rw [apN_8 h]
  obtain ⟨h2, h4, h5⟩ := hS
  exact ⟨h2.kept hb, h4.bel hb h4.size, fun e => ownT_kept (h5 e) hb⟩
theorem bpF_grow {i j : Nat} {val : Value} (h : i ≠ 8) (hF : bpF gp B n nn v k bd rest Z u L j val w) (hb : Below w.heap.size w w') : bpF gp B n nn v k bd rest Z u (apN i L) j val w' := by
  have h2 := bpF_same h hF
  generalize apN i L = M at *
  match j, h2 with
  | 0, h2 => exact h2
  | 1, h2 => exact h2
  | 2, h2 => exact h2
  | 3, h2 => exact h2
  | 4, h2 => exact h2
  | 5, h2 => exact h2
  | 6, h2 => exact h2
  | 7, ⟨b, e, h3⟩ => exact ⟨b, e, fun hm => (h3 hm).kept hb⟩
  | 8, ⟨h3, h4⟩ => exact ⟨ownT_kept h3 hb, h4⟩
  | _ + 9, _ => trivial
/-- One step of the region. -/
def bpT (gp B n nn : Nat) (P : Pk) (v : Value) (k : Int) (bd rest : ByteArray) (Z : Nat → Nat → Value) (u : World) (ops : Array Oper) (i : Nat) (o : Oper) : Prop :=
  ∀ (Q : Exit → Act → World → Prop) (L : Nat → Bool) (a : Act) (w : World), bpS gp B n P v Z u L w → L i = false → (∀ k, predOf o k = true → L k = true) → a.eval (.tmp 1) = .int .i64 k → a.eval (.tmp 2) = .string rest → a.eval (.tmp 3) = .pointer (some ⟨gp, 0, none⟩) → a.eval (.tmp 12) = .int .i64 (nn : Int) →
    (∀ (j : Nat) (oj : Oper) (d : Nat), ops[j]? = some oj → oj.dst = some d → L j = true → bpF gp B n nn v k bd rest Z u L j (a.eval (.tmp d)) w) →
    wpOp Try.prog ops Q i (fun a' w' => ∃ val, a' = a.put o.dst val ∧ bpS gp B n P v Z u (apN i L) w' ∧ bpF gp B n nn v k bd rest Z u (apN i L) i val w' ∧ ∀ j z, j ≠ i → L j = true → bpF gp B n nn v k bd rest Z u L j z w → bpF gp B n nn v k bd rest Z u (apN i L) j z w') a w
theorem bp_value {ops : Array Oper} {i : Nat} {o : Oper} (hi : ops[i]? = some o) (hgd : o.guard = none) (h7 : i ≠ 8) {Q : Exit → Act → World → Prop} {L : Nat → Bool} {a : Act} {w : World} (hS : bpS gp B n P v Z u L w) {val : Value} (he : (execOp a.eval o).run Try.prog w = .ok (.value val) w) (hF : ∀ M, bpF gp B n nn v k bd rest Z u M i val w) :
    wpOp Try.prog ops Q i (fun a' w' => ∃ val, a' = a.put o.dst val ∧ bpS gp B n P v Z u (apN i L) w' ∧ bpF gp B n nn v k bd rest Z u (apN i L) i val w' ∧ ∀ j z, j ≠ i → L j = true → bpF gp B n nn v k bd rest Z u L j z w → bpF gp B n nn v k bd rest Z u (apN i L) j z w') a w := by
  refine wpOp_of hi hgd (wp_value he ⟨val, rfl, bpS_same h7 hS, hF _, fun j z _ _ h => bpF_same h7 h⟩)
theorem bp_all {ops : Array Oper} {a0 : Act} {Q : Exit → Act → World → Prop} (hst : StW (bpT gp B n nn P v k bd rest Z u ops) ops.toList 0) (h1 : (dsts ops).all (fun d => decide (d ≠ 1)) = true) (h2 : (dsts ops).all (fun d => decide (d ≠ 2)) = true) (h3 : (dsts ops).all (fun d => decide (d ≠ 3)) = true) (h12 : (dsts ops).all (fun d => decide (d ≠ 12)) = true) (f1 : a0.tmps[1]? = some (.int .i64 k)) (f2 : a0.tmps[2]? = some (.string rest)) (f3 : a0.tmps[3]? = some (.pointer (some ⟨gp, 0, none⟩))) (f12 : a0.tmps[12]? = some (.int .i64 (nn : Int))) :
    ∀ (i : Nat) (o : Oper), ops[i]? = some o → ∀ (L : Nat → Bool) (a : Act) (w : World), bpS gp B n P v Z u L w → L i = false →
      (∀ (j : Nat) (oj : Oper), ops[j]? = some oj → L j = true → ∀ k, predOf oj k = true → L k = true) → (∀ k, predOf o k = true → L k = true) →
      (∀ t : Nat, (∀ (j : Nat) (oj : Oper), ops[j]? = some oj → oj.dst ≠ some t) → a.tmps[t]? = a0.tmps[t]?) →
      (∀ (j : Nat) (oj : Oper) (d : Nat), ops[j]? = some oj → oj.dst = some d → L j = true → bpF gp B n nn v k bd rest Z u L j (a.tmps.getD d undef) w) →
      wpOp Try.prog ops Q i (fun a' w' => ∃ v', a' = a.put o.dst v' ∧ bpS gp B n P v Z u (fun j => if j = i then true else L j) w' ∧ bpF gp B n nn v k bd rest Z u (fun j => if j = i then true else L j) i v' w' ∧ ∀ j z, j ≠ i → L j = true → bpF gp B n nn v k bd rest Z u L j z w → bpF gp B n nn v k bd rest Z u (fun j => if j = i then true else L j) j z w') a w := by
  intro i o hi L a w hS hL _ hpr hfr hkn
  have h := stW_at hst i o (by rw [← hi]; simp)
  rw [Nat.zero_add] at h
  exact h _ L a w hS hL hpr (getD_of ((hfr 1 (notDst h1)).trans f1)) (getD_of ((hfr 2 (notDst h2)).trans f2)) (getD_of ((hfr 3 (notDst h3)).trans f3)) (getD_of ((hfr 12 (notDst h12)).trans f12)) hkn
theorem bp_seven {ops : Array Oper} {o : Oper} (hi : ops[7]? = some o) (hgd : o.guard = none) {Q : Exit → Act → World → Prop} {L : Nat → Bool} {a : Act} {w : World} (hS : bpS gp B n P v Z u L w) {y : Operand} (ho : o.op = .buildSlice 25 1 #[(0, y)]) (hy : a.eval y = .agg (SC 2 (exV ⟨k, bd⟩))) :
    wpOp Try.prog ops Q 7 (fun a' w' => ∃ val, a' = a.put o.dst val ∧ bpS gp B n P v Z u (apN 7 L) w' ∧ bpF gp B n nn v k bd rest Z u (apN 7 L) 7 val w' ∧ ∀ j z, j ≠ 7 → L j = true → bpF gp B n nn v k bd rest Z u L j z w → bpF gp B n nn v k bd rest Z u (apN 7 L) j z w') a w := by
  have hr := run_bsX ⟨k, bd⟩ w
  have hb : Below w.heap.size w (w.alloc (.cells (SC 2 (exV ⟨k, bd⟩)) 45)) := (Below.refl _ w).alloc (Nat.le_refl _) _
  refine wpOp_of hi hgd ?_
  unfold Oper.wp execOp
  simp only [ho, List.map_toArray, List.map_cons, List.map_nil, hy, Sem.run_bind, hr, Result.andThen_ok, Sem.run_pure, Oper.upon]
  exact ⟨_, rfl, bpS_grow (by decide) hS hb, ⟨_, rfl, fun _ => heap_alloc_new w _⟩, fun j z _ _ h => bpF_grow (by decide) h hb⟩
theorem bp_eight {ops : Array Oper} {o : Oper} (hi : ops[8]? = some o) (hgd : o.guard = none) {Q : Exit → Act → World → Prop} {L : Nat → Bool} {a : Act} {w : World} (hS : bpS gp B n P v Z u L w) (hL : L 8 = false) {y z : Operand} (ho : o.op = .call { callee := .builtin .append, args := #[y, z], argTypes := #[25, 25] }) (hy : a.eval y = v) (hz : ∃ b, a.eval z = .slice (some ⟨b, 0, none⟩) 1 1 ∧ (L 8 = false → SAt w b 45 2 (exV ⟨k, bd⟩))) (hn : n < 1000000) (hB : B ≤ u.heap.size) (hpB : gp < B) :
    wpOp Try.prog ops Q 8 (fun a' w' => ∃ val, a' = a.put o.dst val ∧ bpS gp B n P v Z u (apN 8 L) w' ∧ bpF gp B n nn v k bd rest Z u (apN 8 L) 8 val w' ∧ ∀ j z, j ≠ 8 → L j = true → bpF gp B n nn v k bd rest Z u L j z w → bpF gp B n nn v k bd rest Z u (apN 8 L) j z w') a w := by
  obtain ⟨b, hz, hb⟩ := hz
  obtain ⟨h2, h4, h5⟩ := hS
  have hD := h5 hL
  have hN8 : apN 8 L 8 = true := by unfold apN; rw [if_pos rfl]
  have h4s := h4.size
  refine wpOp_of hi hgd (wp_of_list hgd (fun Q' hQ => ?_))
  refine ap_row hgd Try.underlying25 exInfo (by decide) (by decide) ho (exV_one ⟨k, bd⟩) hy hz hD (hb hL) hn (Nat.le_trans hB h4s) (fun v' w' q1 q2 q3 => hQ _ _ ⟨v', rfl, ?_, ?_, ?_⟩)
  · have bl : ∀ k, k < w.heap.size → v.ownBlock ≠ some k → w'.heap[k]? = w.heap[k]? := fun k hk hn => q2.block k hk (fun e => hn e.symm)
    have lo : ∀ k, k < B → v.ownBlock ≠ some k := fun k hk e => by have := ownM_base hD k e; omega
    refine ⟨(bl gp (heap_lt h2) (lo gp hpB)).trans h2, ?_, fun e => by rw [hN8] at e; cases e⟩
    exact ⟨q2.os.trans h4.os, q2.tape.trans h4.tape, q2.output.trans h4.output, Nat.le_trans h4.size q2.size, fun k hk hn => (bl k (by omega) hn).trans (h4.block k hk hn)⟩
  · refine ⟨q1, fun q hq => ?_⟩
    rcases q3 q hq with e | e
    · exact .inl e
    · exact .inr (Nat.le_trans h4s e)
  · intro j z' hj _ hF
    match j, hj, hF with
    | 0, _, h => exact h
    | 1, _, h => exact h
    | 2, _, h => exact h
    | 3, _, h => exact h
    | 4, _, h => exact h
    | 5, _, h => exact h
    | 6, _, h => exact h
    | 7, _, ⟨b, e, _⟩ => exact ⟨b, e, fun e => by rw [hN8] at e; cases e⟩
    | 8, h, _ => exact absurd rfl h
    | _ + 9, _, _ => trivial
end
def XSt (g3 g6 : Nat) (P : Pk) (R : Rd) (u : World) (acc : List Ex) (k : Int) (rest : ByteArray) (v : Value) (Z : Nat → Nat → Value) (z : World) : Prop :=
  acc.length ≤ 4 ∧ rest.size < 4611686018427387904 ∧ SAt z g3 27 46 (pkV P v) ∧ SAt z g6 27 46 (pkV zeroP (.slice none 0 0)) ∧ z.ownsRow u.heap.size 45 2 v acc.length (rX 2 Z acc.length) ∧ (∀ j x, acc[j]? = some x → ∀ f, f < 2 → Z j f = exV x f) ∧ rdEx P (5 - acc.length) acc k rest = R ∧ Touch (fun q => q = g3) u z
theorem v6_eq (k : Int) (acc : List Ex) : ((!decide (k = 44)) && (((decide (k = 0)) && (decide (0 < ((acc.length : Nat) : Int)))) || (decide (4 ≤ ((acc.length : Nat) : Int))))) = (!decide (k = 44) && !mayB k acc.length) := by
  have e1 : decide ((4 : Int) ≤ ((acc.length : Nat) : Int)) = !decide (((acc.length : Nat) : Int) < 4) := by rw [← decide_not]; exact decide_eq_decide.2 (by omega)
  have e2 : decide ((0 : Int) < ((acc.length : Nat) : Int)) = !decide (((acc.length : Nat) : Int) = 0) := by rw [← decide_not]; exact decide_eq_decide.2 (by omega)
  rw [mayB_d, e1, e2]
  cases decide (k = 44) <;> cases decide (k = 0) <;> cases decide (((acc.length : Nat) : Int) < 4) <;> cases decide (((acc.length : Nat) : Int) = 0) <;> rfl
end Go.Proofs.Ytdlepeogmjmleab
/-
  Own text. The document's Parse.
-/
namespace Go.Proofs.Ytdlepeogmjmleab
open Go.RowKit Go.Proofs
set_option maxRecDepth 100000
theorem exec_quo16 {a : Act} {o : Oper} {w : World} {x y : Operand} (ho : o.op = .binOp .quo 5 x y 5) {i q : Nat} (hx : a.eval x = .int .u8 (i : Int)) (hy : a.eval y = .int .u8 16) (hq : i / 16 = q) (hi : i < 256) : (execOp a.eval o).run Try.prog w = .ok (.value (.int .u8 (q : Int))) w := by
  subst hq
  refine exec_bin2 ho hx hy rfl ?_
  have e : Int.tdiv (i : Int) 16 = (i : Int) / 16 := Int.tdiv_eq_ediv_of_nonneg (by omega)
  have e2 : IntKind.u8.wrap ((i : Int) / 16) = (i : Int) / 16 := by rw [IntKind.wrap_u8]; omega
  simp [go_sem, e, e2]
theorem exec_eqT {a : Act} {o : Oper} {w : World} {x y : Operand} {s t : ByteArray} (h : s = t) (ho : o.op = .binOp .eql 9 x y 9) (hx : a.eval x = .string s) (hy : a.eval y = .string t) : (execOp a.eval o).run Try.prog w = .ok (.value (.bool true)) w := by
  have := exec_eqSd (w := w) ho hx hy
  rwa [decide_eq_true h] at this
theorem exec_eqF {a : Act} {o : Oper} {w : World} {x y : Operand} {s t : ByteArray} (h : s ≠ t) (ho : o.op = .binOp .eql 9 x y 9) (hx : a.eval x = .string s) (hy : a.eval y = .string t) : (execOp a.eval o).run Try.prog w = .ok (.value (.bool false)) w := by
  have := exec_eqSd (w := w) ho hx hy
  rwa [decide_eq_false h] at this
def pk6d (c f h : Int) : Pk := ⟨false, fun _ => 0, false, fun _ => 0, 0, h, c, 0, 0, false, false, ByteArray.empty, f, [], false, ByteArray.empty⟩
theorem run_bd6d (c f h : Int) (w : World) : (Instr.build 27 #[(4, .int .i64 c), (10, .int .i64 f), (3, .int .i64 h)]).run Try.prog w = .ok (.agg (SC 46 (pkV (pk6d c f h) (.slice none 0 0)))) w := by
  kernel_rfl
theorem exec_bd6d {a : Act} {o : Oper} {w : World} {z q r : Operand} (ho : o.op = .build 27 #[(4, z), (10, q), (3, r)]) {c f h : Int} (hz : a.eval z = .int .i64 c) (hq : a.eval q = .int .i64 f) (hr : a.eval r = .int .i64 h) : (execOp a.eval o).run Try.prog w = .ok (.value (.agg (SC 46 (pkV (pk6d c f h) (.slice none 0 0))))) w := by
  unfold execOp
  simp only [ho, List.map_toArray, List.map_cons, List.map_nil, hz, hq, hr, Sem.run_bind, run_bd6d, Result.andThen_ok, Sem.run_pure]
/-- What is told of a packet that was read. -/
def DTold (B : Nat) (R : Rd) (Q : Pk) (v : Value) (x : Int) (w' : World) : Prop :=
  (R = .err x ∧ Q = zeroP ∧ v = .slice none 0 0) ∨ ∃ Z, R = .ok Q ∧ x = 0 ∧ w'.ownsRow B 45 2 v Q.exts.length (rX 2 Z Q.exts.length) ∧ (∀ j x, Q.exts[j]? = some x → ∀ f, f < 2 → Z j f = exV x f)
theorem DTold.one {B : Nat} {R : Rd} {Q : Pk} {v : Value} {x : Int} {w' : World} (h : DTold B R Q v x w') : v.oneCell' = true := by
  rcases h with ⟨_, _, rfl⟩ | ⟨Z, _, _, h, _⟩
  · rfl
  · obtain ⟨_, _, e, _⟩ := ownM_shape h
    rw [e]
    rfl
theorem DTold.only {B C g : Nat} {R : Rd} {Q : Pk} {v : Value} {x : Int} {w' w2 : World} (h : DTold B R Q v x w') (o : Only g w' w2) (hg : g < B) (hC : C ≤ B) : DTold C R Q v x w2 := by
  rcases h with h | ⟨Z, h1, h2, h3, h4⟩
  · exact .inl h
  · exact .inr ⟨Z, h1, h2, ownM_mono (ownM_block h3 (fun q hq => o.block q (by have := ownM_base h3 q hq; omega))) hC, h4⟩
theorem DTold.kept {B : Nat} {R : Rd} {Q : Pk} {v : Value} {x : Int} {w w' : World} (h : DTold B R Q v x w) (hb : Below w.heap.size w w') : DTold B R Q v x w' := by
  rcases h with h | ⟨Z, h1, h2, h3, h4⟩
  · exact .inl h
  · exact .inr ⟨Z, h1, h2, ownT_kept h3 hb, h4⟩
def rdQ : Rd → Pk
  | .err _ => zeroP
  | .ok Q => Q
def rdX : Rd → Int
  | .err x => x
  | .ok _ => 0
def DT7 (B : Nat) (R : Rd) (val : Value) (w : World) : Prop := ∃ v, val = .tuple #[.agg (SC 46 (pkV (rdQ R) v)), .int .i64 (rdX R)] ∧ DTold B R (rdQ R) v (rdX R) w
def DT8 (B : Nat) (R : Rd) (val : Value) (w : World) : Prop := ∃ v, val = .agg (SC 46 (pkV (rdQ R) v)) ∧ DTold B R (rdQ R) v (rdX R) w
theorem DTold.q {B : Nat} {R : Rd} {Q : Pk} {v : Value} {x : Int} {w : World} (h : DTold B R Q v x w) : Q = rdQ R ∧ x = rdX R := by
  rcases h with ⟨h1, h2, _⟩ | ⟨Z, h1, h2, _⟩
  · rw [h1, h2]; exact ⟨rfl, rfl⟩
  · rw [h1, h2]; exact ⟨rfl, rfl⟩
theorem dt7_of {B C : Nat} {R : Rd} {Q : Pk} {v : Value} {x : Int} {w : World} (h : DTold B R Q v x w) (hC : C ≤ B) : DT7 C R (.tuple #[.agg (SC 46 (pkV Q v)), .int .i64 x]) w := by
  obtain ⟨rfl, rfl⟩ := h.q
  refine ⟨v, rfl, ?_⟩
  rcases h with h | ⟨Z, h1, h2, h3, h4⟩
  · exact .inl h
  · exact .inr ⟨Z, h1, h2, ownM_mono h3 hC, h4⟩
def phX (l : List Value) (B : Nat) (R : Rd) (j : Nat) (vv : Value) (w : World) : Prop := if j = 7 then DT7 B R vv w else if j = 8 then DT8 B R vv w else vv = l.getD j undef
theorem phX_kept {l : List Value} {B j : Nat} {R : Rd} {vv : Value} {w w' : World} (h : phX l B R j vv w) (hb : Below w.heap.size w w') : phX l B R j vv w' := by
  unfold phX at h ⊢
  split
  · rename_i e
    rw [if_pos e] at h
    obtain ⟨v, h1, h2⟩ := h
    exact ⟨v, h1, h2.kept hb⟩
  · rename_i e
    rw [if_neg e] at h
    split
    · rename_i e
      rw [if_pos e] at h
      obtain ⟨v, h1, h2⟩ := h
      exact ⟨v, h1, h2.kept hb⟩
    · rename_i e
      rw [if_neg e] at h
      exact h
theorem own_exAt {w : World} {B : Nat} {v : Value} {Z : Nat → Nat → Value} {l : List Ex} (h : w.ownsRow B 45 2 v l.length (rX 2 Z l.length)) (hz : ∀ j x, l[j]? = some x → ∀ f, f < 2 → Z j f = exV x f) : ExAt w v l := by
  rcases h.2 with ⟨hv, hn⟩ | ⟨g, cap, cur, hv, hb, hg, _⟩
  · exact ⟨none, 0, by rw [hv, hn], fun j x hj => absurd (List.getElem?_eq_some_iff.1 hj).1 (by omega)⟩
  · subst hv
    refine ⟨_, _, rfl, fun j x hj => ?_⟩
    have hl := (List.getElem?_eq_some_iff.1 hj).1
    have h0 := own_at h hl 0 (by decide)
    have h1 := own_at h hl 1 (by decide)
    rw [hz j x hj 0 (by decide)] at h0
    rw [hz j x hj 1 (by decide)] at h1
    refine ⟨⟨g, 0, none⟩, rfl, heap_lt hg, ?_, ?_⟩
    · rw [Addr.add_lit, Nat.zero_add]; exact h0
    · rw [Addr.add_lit, Nat.zero_add]; exact h1
theorem DTold.exAt {B : Nat} {R : Rd} {Q : Pk} {v : Value} {x : Int} {w : World} (h : DTold B R Q v x w) : ExAt w v Q.exts := by
  rcases h with ⟨_, rfl, rfl⟩ | ⟨Z, _, _, h, hz⟩
  · exact ExAt.nil w
  · exact own_exAt h hz
end Go.Proofs.Ytdlepeogmjmleab
/-
  Own text. Errors of what is read; bytes that were cut short; a header of which one byte was changed; two packets and their bytes. Names no function of the program.
-/
namespace Go.Proofs.Ytdlepeogmjmleab
open Go.RowKit Go.Proofs
set_option maxRecDepth 100000
theorem rdEx_err {p : Pk} : ∀ (n : Nat) (acc : List Ex) (k : Int) (rest : ByteArray) {x : Int}, rdEx p n acc k rest = .err x → x = 72 ∨ x = 74
  | 0, _, _, _, x, h => by
    unfold rdEx at h
    injection h with h
    omega
  | n + 1, acc, k, rest, x, h => by
    rw [rdEx] at h
    split at h
    · cases h
    split at h
    · injection h with h; omega
    split at h
    · injection h with h; omega
    split at h
    · split at h
      · injection h with h; omega
      · cases h
    split at h
    · injection h with h; omega
    exact rdEx_err n _ _ _ h
/-- The errors that there are. -/
theorem rd_err {b : ByteArray} {x : Int} (h : rdP b = .err x) : x = 70 ∨ x = 71 ∨ x = 72 ∨ x = 73 ∨ x = 74 := by
  unfold rdP at h
  split at h
  · injection h with h; omega
  split at h
  · injection h with h; omega
  split at h
  · injection h with h; omega
  split at h
  · unfold rd4 at h
    simp only [] at h
    split at h
    · injection h with h; omega
    split at h
    · injection h with h; omega
    split at h
    · injection h with h; omega
    cases h
  split at h
  · injection h with h; omega
  have := rdEx_err _ _ _ _ h
  omega
/-- Bytes that were cut short. -/
theorem rd_short {P : Pk} (h : rgtP P = true) (hf : fitP P = true) {k : Nat} (hk : k < (bldT P).size) : rdP ((bldT P).extract 0 k) = .err (if k < 20 ∨ (P.sv = true ∧ k < 40) then 70 else 72) := by
  have hs := bld_size h hf
  have hz : ((bldT P).extract 0 k).size = k := by rw [cutP_size _ _ _ (by omega)]; omega
  by_cases h0 : k = 0
  · subst h0
    unfold rdP
    rw [hz, if_pos rfl, if_pos (.inl (by decide))]
  have t0 : txt ((bldT P).extract 0 k) 0 = txt (bldT P) 0 := by rw [txt_cutP _ _ _ _ (by omega) (by omega)]
  have gg : ∀ a z, a + z ≤ k → getN (txt ((bldT P).extract 0 k)) a z = getN (txt (bldT P)) a z := fun a z hh => by
    rw [getN_cut _ (by omega) (by omega), Nat.zero_add]
  have hsz : sizeP P = headP P + P.pay.size := by unfold sizeP; rw [if_pos h]
  cases h6 : P.sv
  · have hB : bldT P = fourB P := by unfold bldT; rw [h, hf, h6]; rfl
    obtain ⟨s0, _, s2, _⟩ := four_says h hf h6 ByteArray.empty
    rw [app_empty, ← hB] at s0 s2
    have hh : headP P = 20 + P.opts.size := by unfold headP; rw [if_neg (by rw [h6]; decide)]
    obtain ⟨_, _, _, _, _, _, _, _, hr⟩ := rgtP_iff.1 h
    rw [if_neg (by rw [h6]; decide)] at hr
    obtain ⟨_, ho4, hop, _⟩ := rgt4_iff.1 hr
    have e0 : (txt ((bldT P).extract 0 k) 0).toNat = 64 + headP P / 4 := by rw [t0, s0]; exact Int.toNat_natCast _
    unfold rdP
    rw [hz, e0, if_neg h0, if_neg (by omega)]
    by_cases h20 : k < 20
    · rw [if_pos (.inl h20), if_pos (.inl h20)]
    · rw [if_neg (by omega), if_pos (by omega), if_neg (by rintro (e | ⟨e, _⟩); exact h20 e; cases e)]
      unfold rd4
      simp only []
      rw [gg 2 2 (by omega), s2, hz, if_pos (by omega)]
  · have hB : bldT P = hd6 P ++ (exB P P.exts ++ P.pay) := by
      unfold bldT
      rw [h, hf, h6]
      show sixB P = _
      unfold sixB
      rw [app_assoc]
    obtain ⟨s0, _, s4, _⟩ := hd6_says h hf h6 (exB P P.exts ++ P.pay)
    rw [← hB] at s0 s4
    have h40 : 40 ≤ headP P := by unfold headP; rw [if_pos h6]; omega
    have e0 : (txt ((bldT P).extract 0 k) 0).toNat / 16 = 6 := by rw [t0]; exact s0
    unfold rdP
    rw [hz, e0, if_neg h0, if_neg (by omega)]
    by_cases h20 : k < 40
    · rw [if_pos (by omega), if_pos (.inr ⟨rfl, h20⟩)]
    · rw [if_neg (show ¬ (k < 20 ∨ (true = true ∧ k < 40)) by rintro (e | ⟨_, e⟩) <;> omega), if_neg (by omega), if_neg (by decide), gg 4 2 (by omega), s4, if_pos (by omega)]
theorem sw_one {f g : Nat → Int} {m : Nat} : ∀ n, (∀ j, j < n → j ≠ m → g j = f j) → sw g n = sw f n + (if m < n then (if m % 2 = 0 then 256 * (g m - f m) else g m - f m) else 0)
  | 0, _ => by unfold sw; rw [if_neg (by omega)]; rfl
  | n + 1, h => by
    have ih := sw_one n (fun j hj hm => h j (by omega) hm)
    show sw g n + (if n % 2 = 0 then 256 * g n else g n) = (sw f n + (if n % 2 = 0 then 256 * f n else f n)) + _
    rw [ih]
    by_cases hm : n = m
    · subst hm
      rw [if_neg (Nat.lt_irrefl _), if_pos (Nat.lt_succ_self _)]
      split <;> omega
    · rw [h n (Nat.lt_succ_self _) hm]
      by_cases hl : m < n
      · rw [if_pos hl, if_pos (show m < n + 1 by omega)]; omega
      · rw [if_neg hl, if_neg (show ¬ m < n + 1 by omega)]; omega
theorem cano_ne {s d : Int} (h0 : 0 ≤ s) (h1 : 0 ≤ s + d) (hd : d ≠ 0) (h2 : -65280 ≤ d) (h3 : d ≤ 65280) : cano (s + d) ≠ cano s := by
  unfold cano
  split <;> split <;> omega
/-- The bytes that a header's checksum is taken of. -/
def hsum (b : ByteArray) (h : Nat) : ByteArray := b.extract 0 10 ++ b.extract 12 h
theorem hsum_size {b : ByteArray} {h : Nat} (h1 : 20 ≤ h) (h2 : h ≤ b.size) : (hsum b h).size = h - 2 := by
  unfold hsum
  rw [ByteArray.size_append, cutP_size _ _ _ (by omega), cutP_size _ _ _ h2]
  omega
theorem hsum_txt {b : ByteArray} {h : Nat} (h1 : 20 ≤ h) (h2 : h ≤ b.size) {j : Nat} (hj : j < h - 2) : txt (hsum b h) j = if j < 10 then txt b j else txt b (j + 2) := by
  unfold hsum
  have hz : (b.extract 0 10).size = 10 := by rw [cutP_size _ _ _ (by omega)]
  by_cases e : j < 10
  · rw [if_pos e, txt_left _ _ (by omega), txt_cutP _ _ _ _ (by omega) (by omega), Nat.zero_add]
  · obtain ⟨i, rfl⟩ : ∃ i, j = 10 + i := ⟨j - 10, by omega⟩
    rw [if_neg e, txt_right _ _ hz, txt_cutP _ _ _ _ (by omega) h2]
    congr 1
    omega
theorem hsum_ne {b c : ByteArray} {h k : Nat} (hs : c.size = b.size) (h1 : 20 ≤ h) (h2 : h ≤ b.size) (hk : k < h) (hk2 : k < 10 ∨ 12 ≤ k) (hne : txt c k ≠ txt b k) (he : ∀ j, j ≠ k → txt c j = txt b j) : sumT (hsum c h) ≠ sumT (hsum b h) := by
  have z1 := hsum_size h1 h2
  have z2 := hsum_size (b := c) h1 (by omega)
  obtain ⟨m, hm⟩ : ∃ m, m = if k < 10 then k else k - 2 := ⟨_, rfl⟩
  have hml : m < h - 2 := by rw [hm]; split <;> omega
  have tm : ∀ x : ByteArray, x.size = b.size → txt (hsum x h) m = txt x k := fun x hx => by
    rw [hsum_txt h1 (by omega) hml, hm]
    by_cases e : k < 10
    · rw [if_pos e, if_pos e]
    · rw [if_neg e, if_neg (by omega), Nat.sub_add_cancel (by omega)]
  have key := sw_one (f := txt (hsum b h)) (g := txt (hsum c h)) (m := m) (h - 2) (fun j hj hjm => by
    rw [hsum_txt h1 (by omega) hj, hsum_txt h1 h2 hj]
    by_cases e : j < 10
    · rw [if_pos e, if_pos e]
      exact he j (fun e2 => hjm (by rw [hm, if_pos (by omega)]; exact e2))
    · rw [if_neg e, if_neg e]
      exact he (j + 2) (fun e2 => hjm (by rw [hm, if_neg (by omega)]; omega)))
  rw [if_pos hml, tm b rfl, tm c hs] at key
  have hb := txt_b b k
  have hc := txt_b c k
  have n1 := sw_nn (f := txt (hsum b h)) (fun i => (txt_b _ i).1) (h - 2)
  have n2 := sw_nn (f := txt (hsum c h)) (fun i => (txt_b _ i).1) (h - 2)
  unfold sumT
  rw [z1, z2, key]
  rw [key] at n2
  have := cano_ne n1 n2 (by split <;> omega) (by split <;> omega) (by split <;> omega)
  omega
/-- A header of version 4 of which one byte was changed. -/
theorem rd_turned {P : Pk} (h : rgtP P = true) (hf : fitP P = true) (h4 : P.sv = false) {c : ByteArray} {k : Nat} (hs : c.size = (bldT P).size) (hk0 : 0 < k) (hk : k < 20 + P.opts.size) (hne : txt c k ≠ txt (bldT P) k) (he : ∀ j, j ≠ k → txt c j = txt (bldT P) j) : rdP c = .err 72 ∨ rdP c = .err 73 := by
  have hz := bld_size h hf
  have hsz : sizeP P = headP P + P.pay.size := by unfold sizeP; rw [if_pos h]
  have hB : bldT P = fourB P := by unfold bldT; rw [h, hf, h4]; rfl
  obtain ⟨s0, _, s2, _, _, _, _, sa, ss, sb⟩ := four_says h hf h4 ByteArray.empty
  rw [app_empty, ← hB] at s0 s2 sa ss sb
  have hh : headP P = 20 + P.opts.size := by unfold headP; rw [if_neg (by rw [h4]; decide)]
  obtain ⟨_, _, _, _, _, _, _, _, hr⟩ := rgtP_iff.1 h
  rw [if_neg (by rw [h4]; decide)] at hr
  obtain ⟨_, ho4, hop, _⟩ := rgt4_iff.1 hr
  have e0 : (txt c 0).toNat = 64 + headP P / 4 := by rw [he 0 (by omega), s0]; exact Int.toNat_natCast _
  have hHS : sumT (hsum (bldT P) (headP P)) = ((getN (txt (bldT P)) 10 2 : Nat) : Int) := by
    unfold hsum
    rw [sa, sb, ss]
    exact (sum_nat _).1.symm
  have q4 : (64 + headP P / 4) / 16 = 4 := by omega
  have q5 : (64 + headP P / 4) % 16 * 4 = headP P := by omega
  have hrd : rdP c = rd4 c := by
    unfold rdP
    rw [if_neg (by omega), e0, q4, if_neg (by omega), if_neg (by omega), if_pos rfl]
  rw [hrd]
  unfold rd4
  simp only [e0, q5]
  by_cases hc : headP P < 20 ∨ getN (txt c) 2 2 < headP P ∨ c.size < getN (txt c) 2 2
  · rw [if_pos hc]; exact .inl rfl
  · rw [if_neg hc, if_pos]
    · exact .inr rfl
    show sumT (hsum c (headP P)) ≠ _
    by_cases hk2 : k < 10 ∨ 12 ≤ k
    · have n1 := hsum_ne (h := headP P) hs (by omega) (by omega) (by omega) hk2 hne he
      have e1 : getN (txt c) 10 2 = getN (txt (bldT P)) 10 2 := getN_congr (fun i hi => he _ (by omega))
      rw [e1, ← hHS]
      exact n1
    · have e1 : hsum c (headP P) = hsum (bldT P) (headP P) := by
        refine txt_ext ?_ (fun j hj => ?_)
        · rw [hsum_size (by omega) (by omega), hsum_size (by omega) (by omega)]
        · rw [hsum_size (by omega) (by omega)] at hj
          rw [hsum_txt (by omega) (by omega) hj, hsum_txt (by omega) (by omega) hj]
          by_cases e : j < 10
          · rw [if_pos e, if_pos e]
            exact he _ (by omega)
          · rw [if_neg e, if_neg e]
            exact he _ (by omega)
      rw [e1, hHS]
      have a1 := txt_b c 10
      have a2 := txt_b c 11
      have a3 := txt_b (bldT P) 10
      have a4 := txt_b (bldT P) 11
      rw [getN_two, getN_two, show 10 + 1 = 11 from rfl]
      intro ee
      have hk3 : k = 10 ∨ k = 11 := by omega
      rcases hk3 with rfl | rfl
      · have := he 11 (by decide)
        exact hne (by omega)
      · have := he 10 (by decide)
        exact hne (by omega)
theorem byt_congr {v : Bool} {b b' : Nat → Int} (h : ∀ i, i < 16 → b i = b' i) (hv : validF v b = true) (hv' : validF v b' = true) : bytT v b = bytT v b' := by
  rw [bytT_ok hv, bytT_ok hv']
  exact mkS_congr (fun j hj => h j (by cases v <;> simp at hj <;> omega))
theorem exB_congr {P Q : Pk} (h1 : P.proto = Q.proto) (h2 : P.cut = Q.cut) (h3 : P.off = Q.off) (h4 : P.more = Q.more) (h5 : P.id = Q.id) : ∀ l : List Ex, nextK P l = nextK Q l ∧ exB P l = exB Q l
  | [] => by
    unfold nextK exB tailK cuB
    rw [h1, h2, h3, h4, h5]
    exact ⟨rfl, rfl⟩
  | x :: l => by
    have ih := exB_congr h1 h2 h3 h4 h5 l
    unfold exB
    rw [ih.1, ih.2]
    exact ⟨rfl, rfl⟩
theorem sam_bld {P Q : Pk} (hs : samP P Q = true) (h : rgtP P = true) (hf : fitP P = true) (h' : rgtP Q = true) (hf' : fitP Q = true) : bldT P = bldT Q := by
  obtain ⟨e1, e2, e3, e4, e5, e6, e7, e8, e9, e10, e11, e12, e13, e14, e15, e16⟩ := samP_iff.1 hs
  have r1 := rgtP_iff.1 h
  have r2 := rgtP_iff.1 h'
  have b1 : bytT P.sv P.sb = bytT Q.sv Q.sb := by rw [e1]; exact byt_congr e2 (by rw [← e1]; exact r1.1) r2.1
  have b2 : bytT P.dv P.db = bytT Q.dv Q.db := by rw [e3]; exact byt_congr e4 (by rw [← e3]; exact r1.2.1) r2.2.1
  have hx := exB_congr e5 e15 e9 e10 e8 P.exts
  have hh : headP P = headP Q := by unfold headP; rw [e1, e12, e14, e15]
  have ea : a4 P = a4 Q := by unfold a4; rw [hh, e7, e16, e8, e9, e10, e11, e6, e5]
  have eb : b4 P = b4 Q := by unfold b4; rw [b1, b2, e12]
  have e4' : fourB P = fourB Q := by unfold fourB; rw [ea, eb, e16]
  have e6h : hd6 P = hd6 Q := by
    have q : nextK P P.exts = nextK Q Q.exts := by rw [hx.1, e14]
    unfold hd6
    rw [q, b1, b2, hh, e6, e7, e13, e16]
  have e6' : sixB P = sixB Q := by
    have q : exB P P.exts = exB Q Q.exts := by rw [hx.2, e14]
    unfold sixB
    rw [e6h, q, e16]
  unfold bldT
  rw [h, hf, h', hf', e1, e4', e6']
theorem sam_sym {P Q : Pk} (h : samP P Q = true) : samP Q P = true := by
  obtain ⟨e1, e2, e3, e4, e5, e6, e7, e8, e9, e10, e11, e12, e13, e14, e15, e16⟩ := samP_iff.1 h
  exact samP_iff.2 ⟨e1.symm, fun i hi => (e2 i hi).symm, e3.symm, fun i hi => (e4 i hi).symm, e5.symm, e6.symm, e7.symm, e8.symm, e9.symm, e10.symm, e11.symm, e12.symm, e13.symm, e14.symm, e15.symm, e16.symm⟩
theorem sam_trans {P Q R : Pk} (h : samP P Q = true) (h' : samP Q R = true) : samP P R = true := by
  obtain ⟨e1, e2, e3, e4, e5, e6, e7, e8, e9, e10, e11, e12, e13, e14, e15, e16⟩ := samP_iff.1 h
  obtain ⟨f1, f2, f3, f4, f5, f6, f7, f8, f9, f10, f11, f12, f13, f14, f15, f16⟩ := samP_iff.1 h'
  exact samP_iff.2 ⟨e1.trans f1, fun i hi => (e2 i hi).trans (f2 i hi), e3.trans f3, fun i hi => (e4 i hi).trans (f4 i hi), e5.trans f5, e6.trans f6, e7.trans f7, e8.trans f8, e9.trans f9, e10.trans f10, e11.trans f11, e12.trans f12, e13.trans f13, e14.trans f14, e15.trans f15, e16.trans f16⟩
theorem sam_self (P : Pk) : samP P P = true := samP_iff.2 ⟨rfl, fun _ _ => rfl, rfl, fun _ _ => rfl, rfl, rfl, rfl, rfl, rfl, rfl, rfl, rfl, rfl, rfl, rfl, rfl⟩
/-- No two packets have one text of bytes. -/
theorem bld_apart {P Q : Pk} (hO : PkOk P) (hO' : PkOk Q) (h : rgtP P = true) (hf : fitP P = true) (h' : rgtP Q = true) (hf' : fitP Q = true) : decide (bldT P = bldT Q) = samP P Q := by
  cases hs : samP P Q
  · refine decide_eq_false (fun e => ?_)
    obtain ⟨P', p1, p2⟩ := rd_bld hO h hf ByteArray.empty
    obtain ⟨Q', q1, q2⟩ := rd_bld hO' h' hf' ByteArray.empty
    rw [← e, p1] at q1
    injection q1 with q1
    subst q1
    rw [sam_trans p2 (sam_sym q2)] at hs
    cases hs
  · exact decide_eq_true (sam_bld hs h hf h' hf')
end Go.Proofs.Ytdlepeogmjmleab
/-
  Own text. The law's own helpers: small, awake.
-/
namespace Go.Proofs.Ytdlepeogmjmleab
open Go.RowKit Go.Proofs
set_option maxRecDepth 100000
theorem Parse_end (b : ByteArray) (w : World) (hsm : b.size < 4611686018427387904) : Calls Try.prog 8 #[.string b] w fun e w' => DEnd w (rdP b) e w' := Parse_run b w hsm
theorem Parse_ok {b : ByteArray} {Q : Pk} (h : rdP b = .ok Q) (w : World) (hsm : b.size < 4611686018427387904) : Calls Try.prog 8 #[.string b] w fun e w' => Below w.heap.size w w' ∧ ∃ v, e = .returned (.tuple #[.agg (SC 46 (pkV Q v)), .int .i64 0]) ∧ DTold w.heap.size (.ok Q) Q v 0 w' := (Parse_end b w hsm).mono (fun e w' ⟨hB, Q', v, x, he, hd⟩ => by
  have hd' : DTold w.heap.size (rdP b) Q' v x w' := hd
  rw [h] at hd'
  obtain ⟨e1, e2⟩ := hd'.q
  have e1' : Q' = Q := e1
  have e2' : x = 0 := e2
  subst e1' e2'
  exact ⟨hB, v, he, hd'⟩)
theorem Parse_err {b : ByteArray} {x : Int} (h : rdP b = .err x) (w : World) (hsm : b.size < 4611686018427387904) : Calls Try.prog 8 #[.string b] w fun e w' => e = .returned (.tuple #[.agg (SC 46 (pkV zeroP (.slice none 0 0))), .int .i64 x]) ∧ Below w.heap.size w w' := (Parse_end b w hsm).mono (fun e w' ⟨hB, Q', v, x', he, hd⟩ => by
  have hd' : DTold w.heap.size (rdP b) Q' v x' w' := hd
  rw [h] at hd'
  rcases hd' with ⟨h1, h2, h3⟩ | ⟨_, h1, _⟩
  · injection h1 with h1
    subst h1 h2 h3
    exact ⟨he, hB⟩
  · cases h1)
theorem exec_lenSV {a : Act} {o : Oper} {w : World} {x : Operand} {s : ByteArray} {n : Nat} (h : s.size = n) (ho : o.op = .call { callee := .builtin .len, args := #[x], argTypes := #[9] }) (hx : a.eval x = .string s) : (execOp a.eval o).run Try.prog w = .ok (.value (.int .i64 (n : Int))) w := by
  subst h
  exact exec_lenS ho hx
def smallP : Pk := ⟨false, v4B 10 0 0 1, false, v4B 10 0 0 2, 17, 64, 0, 1, 0, false, false, ByteArray.empty, 0, [], false, ⟨#[104, 105]⟩⟩
theorem run_bdS (w : World) : (Instr.build 27 #[(0, .agg (SC 17 (adV false (v4B 10 0 0 1)))), (1, .agg (SC 17 (adV false (v4B 10 0 0 2)))), (2, .int .i64 17), (3, .int .i64 64), (5, .int .i64 1), (13, .string ⟨#[104, 105]⟩)]).run Try.prog w = .ok (.agg (SC 46 (pkV smallP (.slice none 0 0)))) w := by kernel_rfl
theorem exec_bdS {a : Act} {o : Oper} {w : World} {x y : Operand} (ho : o.op = .build 27 #[(0, x), (1, y), (2, .const (.int .i64 17)), (3, .const (.int .i64 64)), (5, .const (.int .i64 1)), (13, .const (.string ⟨#[104, 105]⟩))]) (hx : a.eval x = .agg (SC 17 (adV false (v4B 10 0 0 1)))) (hy : a.eval y = .agg (SC 17 (adV false (v4B 10 0 0 2)))) : (execOp a.eval o).run Try.prog w = .ok (.value (.agg (SC 46 (pkV smallP (.slice none 0 0))))) w := by
  have e1 : a.eval (.const (.int .i64 17)) = .int .i64 17 := rfl
  have e2 : a.eval (.const (.int .i64 64)) = .int .i64 64 := rfl
  have e3 : a.eval (.const (.int .i64 1)) = .int .i64 1 := rfl
  have e4 : a.eval (.const (.string ⟨#[104, 105]⟩)) = .string ⟨#[104, 105]⟩ := rfl
  unfold execOp
  simp only [ho, List.map_toArray, List.map_cons, List.map_nil, hx, hy, e1, e2, e3, e4, Sem.run_bind, run_bdS, Result.andThen_ok, Sem.run_pure]
theorem small_run (w : World) : Calls Try.prog 10 #[] w fun e w' => e = .returned (.agg (SC 46 (pkV smallP (.slice none 0 0)))) ∧ Below w.heap.size w w' := by
  have H1 := Hid.mk (fun ww => V4_run 10 0 0 1 ww)
  have H2 := Hid.mk (fun ww => V4_run 10 0 0 2 ww)
  have HB : Hid (∀ (a : Act) (o : Oper) (w : World) (x y : Operand), o.op = .build 27 #[(0, x), (1, y), (2, .const (.int .i64 17)), (3, .const (.int .i64 64)), (5, .const (.int .i64 1)), (13, .const (.string ⟨#[104, 105]⟩))] → a.eval x = .agg (SC 17 (adV false (v4B 10 0 0 1))) → a.eval y = .agg (SC 17 (adV false (v4B 10 0 0 2))) → (execOp a.eval o).run Try.prog w = .ok (.value (.agg (SC 46 (pkV smallP (.slice none 0 0))))) w) := Hid.mk (fun a o w x y h1 h2 h3 => exec_bdS h1 h2 h3)
  generalize smallP = SP at *
  generalize v4B 10 0 0 1 = F1 at *
  generalize v4B 10 0 0 2 = F2 at *
  go_enter Try.func10, Try.ntmps10
  go_wp2_with (refine wl_alO rfl rfl zeroPk ?_; intro g1 u2 hg1 q1 hB2; refine Hid.out ?_)
  refine Hid.mk ?_
  go_wp2_with (go_at_call 19; refine (H1.out _).mono ?_; rintro e u3 ⟨rfl, hB3⟩; refine Hid.out ?_)
  refine Hid.mk ?_
  go_wp2_with (go_at_call 19; refine (H2.out _).mono ?_; rintro e u4 ⟨rfl, hB4⟩; refine Hid.out ?_)
  refine Hid.mk ?_
  have q4 := (q1.kept hB3).kept hB4
  go_wp2_with (first | (refine wl_value rfl (HB.out _ _ _ _ _ rfl (by rfl) (by rfl)) ?_) | (refine st_stO rfl rfl isPk (fun i => pkV_one rfl i) q4 (by rfl) (by rfl) ?_; intro u5 q5 o5; refine Hid.out ?_))
  refine Hid.mk ?_
  go_wp2_with fail
  have h1 := hB2.trans (hB3.mono hB2.size)
  have h2 := h1.trans (hB4.mono h1.size)
  exact bodyPost_ret (res_st rfl isPk q5 (by rfl)) rfl ⟨rfl, h2.trans (o5.below hg1)⟩
theorem small_right : rgtP smallP = true := by decide +kernel
theorem small_fit : fitP smallP = true := by decide +kernel
theorem small_size : sizeP smallP = 22 := by decide +kernel
theorem small_E : bldE smallP = 0 := by decide +kernel
theorem small_ok : PkOk smallP := ⟨fun i hi => by
  have h : ∀ i, i < 16 → 0 ≤ v4B 10 0 0 1 i ∧ v4B 10 0 0 1 i < 256 := by decide
  exact h i hi, fun i hi => by
  have h : ∀ i, i < 16 → 0 ≤ v4B 10 0 0 2 i ∧ v4B 10 0 0 2 i < 256 := by decide
  exact h i hi⟩
theorem small_b : (bldT smallP).size = 22 := by rw [bld_size small_right small_fit]; exact small_size
theorem small_says : txt (bldT smallP) 0 = 69 ∧ txt (bldT smallP) 9 = 17 := by
  obtain ⟨s0, _, _, _, _, _, s9, _⟩ := four_says small_right small_fit (show smallP.sv = false from rfl) ByteArray.empty
  have hB : bldT smallP = fourB smallP := by unfold bldT; rw [small_right, small_fit]; rfl
  rw [app_empty, ← hB] at s0 s9
  exact ⟨s0, s9⟩
theorem small_rd : ∃ Q, rdP (bldT smallP) = .ok Q ∧ Q.pay = ⟨#[104, 105]⟩ ∧ Q.hop = 64 := by
  obtain ⟨Q, h1, h2⟩ := rd_bld small_ok small_right small_fit ByteArray.empty
  rw [app_empty] at h1
  obtain ⟨_, _, _, _, _, e6, _, _, _, _, _, _, _, _, _, e16⟩ := samP_iff.1 h2
  exact ⟨Q, h1, e16.symm, e6.symm⟩
set_option maxHeartbeats 4000000 in
theorem awake_run (w : World) : Calls Try.prog 6 #[] w fun e w' => e = .returned (.bool true) ∧ Below w.heap.size w w' := by
  have HSM := Hid.mk (fun ww => small_run ww)
  have HBD : Hid (∀ ww, Calls Try.prog 7 #[.agg (SC 46 (pkV smallP (.slice none 0 0)))] ww fun e w' => e = .returned (.tuple #[.string (bldT smallP), .int .i64 0]) ∧ Below ww.heap.size ww w') := Hid.mk (fun ww => by
    have := Build_run smallP (.slice none 0 0) ww (ExAt.nil ww) small_ok (by decide) (fun x hx => by cases hx) (by decide)
    rw [small_E] at this
    exact this)
  obtain ⟨Q, hQ, hq1, hq2⟩ := small_rd
  have HPA : Hid (∀ ww, Calls Try.prog 8 #[.string (bldT smallP)] ww fun e w' => Below ww.heap.size ww w' ∧ ∃ v, e = .returned (.tuple #[.agg (SC 46 (pkV Q v)), .int .i64 0]) ∧ v.oneCell' = true) := Hid.mk (fun ww => (Parse_ok hQ ww (by rw [small_b]; decide)).mono (fun e w' ⟨h1, v, h2, h3⟩ => ⟨h1, v, h2, h3.one⟩))
  have HSZ : Hid (∀ ww, Calls Try.prog 11 #[.agg (SC 46 (pkV smallP (.slice none 0 0)))] ww fun e w' => e = .returned (.int .i64 22) ∧ Below ww.heap.size ww w') := Hid.mk (fun ww => by
    have := Size_run smallP (.slice none 0 0) ww (ExAt.nil ww) (by decide) (fun x hx => by cases hx) (by decide)
    rw [small_size] at this
    exact this)
  have HRT : Hid (∀ ww, Calls Try.prog 12 #[.agg (SC 46 (pkV smallP (.slice none 0 0)))] ww fun e w' => e = .returned (.bool true) ∧ Below ww.heap.size ww w') := Hid.mk (fun ww => by
    have := Right_run smallP (.slice none 0 0) ww (ExAt.nil ww) (by decide) (fun x hx => by cases hx)
    rw [small_right] at this
    exact this)
  have HZ := Hid.mk small_b
  have H0 := Hid.mk small_says.1
  have H9 := Hid.mk small_says.2
  have HZ0 : Hid (0 < (bldT smallP).size) := Hid.mk (by rw [HZ.out]; decide)
  have HZ9 : Hid (9 < (bldT smallP).size) := Hid.mk (by rw [HZ.out]; decide)
  have HQ1 := Hid.mk hq1
  have HQ2 := Hid.mk hq2
  clear hQ hq1 hq2
  generalize bldT smallP = BT at *
  generalize smallP = SP at *
  go_enter Try.func6, Try.ntmps6
  go_wp2_with (go_at_call 10; refine (HSM.out _).mono ?_; rintro e u2 ⟨rfl, hB2⟩; refine Hid.out ?_)
  refine Hid.mk ?_
  go_wp2_with (go_at_call 7; refine (HBD.out _).mono ?_; rintro e u3 ⟨rfl, hB3⟩; refine Hid.out ?_)
  refine Hid.mk ?_
  go_wp2_with (go_at_call 8; refine (HPA.out _).mono ?_; rintro e u4 ⟨hB4, v, rfl, hon⟩; refine Hid.out ?_)
  refine Hid.mk ?_
  have hBa := hB2.trans (hB3.mono hB2.size)
  replace hBa := hBa.trans (hB4.mono hBa.size)
  clear hB2 hB3 hB4
  go_wp2_with (refine wl_alO rfl rfl zeroPk ?_; intro g3 u5 hg3 q3 hB5; refine Hid.out ?_)
  refine Hid.mk ?_
  have hg3w : w.heap.size ≤ g3 := by have := hBa.size; omega
  have hBb := hBa.trans (hB5.mono hBa.size)
  go_wp2_with (refine st_stO rfl rfl isPk (fun i => pkV_one hon i) q3 (by rfl) (by rfl) ?_; intro u6 q6 o6; refine Hid.out ?_)
  refine Hid.mk ?_
  have hBc := hBb.trans (o6.below hg3w)
  clear hBa hBb hB5 q3 o6
  have c13 := pk_pay q6
  have c3 := pk_hop q6
  rw [HQ1.out] at c13
  rw [HQ2.out] at c3
  go_wp2_with (first | (refine wl_value rfl (exec_lenSV HZ.out rfl (by rfl)) ?_) | (refine wl_value rfl (exec_ixv (j := 0) rfl (by rfl) (by rfl) HZ0.out H0.out) ?_) | (refine wl_value rfl (exec_ixv (j := 9) rfl (by rfl) (by rfl) HZ9.out H9.out) ?_) | (refine wl_value rfl (exec_fpkL 13 45 (by decide) rfl rfl (by rfl)) ?_) | (refine wl_value rfl (exec_fpkL 3 35 (by decide) rfl rfl (by rfl)) ?_) | (refine wl_value rfl (exec_ld rfl (by rfl) (ldPs c13)) ?_) | (refine wl_value rfl (exec_ld rfl (by rfl) (ldP c3)) ?_) | (refine wl_value rfl (exec_eqT (s := ⟨#[104, 105]⟩) (t := ⟨#[104, 105]⟩) rfl rfl (by rfl) (by rfl)) ?_) | (go_at_call 10; refine (HSM.out _).mono ?_; rintro e u7 ⟨rfl, hB7⟩; refine Hid.out ?_))
  refine Hid.mk ?_
  go_wp2_with (go_at_call 11; refine (HSZ.out _).mono ?_; rintro e u8 ⟨rfl, hB8⟩; refine Hid.out ?_)
  refine Hid.mk ?_
  go_wp2_with (go_at_call 10; refine (HSM.out _).mono ?_; rintro e u9 ⟨rfl, hB9⟩; refine Hid.out ?_)
  refine Hid.mk ?_
  go_wp2_with (go_at_call 12; refine (HRT.out _).mono ?_; rintro e u10 ⟨rfl, hB10⟩; refine Hid.out ?_)
  refine Hid.mk ?_
  go_wp2_with fail
  go_ret
  have h1 := hBc.trans (hB7.mono hBc.size)
  have h2 := h1.trans (hB8.mono h1.size)
  have h3 := h2.trans (hB9.mono h2.size)
  exact ⟨rfl, h3.trans (hB10.mono h3.size)⟩
end Go.Proofs.Ytdlepeogmjmleab
/-
  Own text. The law's helper lent: a packet whose extension headers lie in memory of their own, with one more behind them.
-/
namespace Go.Proofs.Ytdlepeogmjmleab
open Go.RowKit Go.Proofs
set_option maxRecDepth 100000
def exW (l : List Ex) (j f : Nat) : Value := exV (l.getD j ⟨0, ByteArray.empty⟩) f
theorem exW_at {l : List Ex} {j : Nat} {x : Ex} (h : l[j]? = some x) (f : Nat) : exW l j f = exV x f := by
  unfold exW
  rw [List.getD_eq_getElem?_getD, h]
  rfl
theorem exW_row {w : World} {ad : Addr} {l : List Ex} (h : ∀ j x, l[j]? = some x → w.cell? (ad.add (2 * j)) = some (.int .i64 x.kind) ∧ w.cell? (ad.add (2 * j + 1)) = some (.string x.body)) : ∀ i u, (rX 2 (exW l) l.length)[i]? = some u → w.cell? (ad.add i) = some u := by
  intro i u hu
  have hi : i < l.length * 2 := by
    have := (List.getElem?_eq_some_iff.1 hu).1
    rwa [rX_len] at this
  have hj : i / 2 < l.length := by omega
  obtain ⟨x, hx⟩ : ∃ x, l[i / 2]? = some x := ⟨_, List.getElem?_eq_getElem hj⟩
  obtain ⟨h1, h2⟩ := h _ _ hx
  have hr := rX_at 2 (exW l) l.length (i / 2) (i % 2) hj (by omega)
  rw [show 2 * (i / 2) + i % 2 = i by omega, hu, exW_at hx] at hr
  have hu2 : u = exV x (i % 2) := Option.some.inj hr
  rcases (show i % 2 = 0 ∨ i % 2 = 1 by omega) with e | e
  · rw [show 2 * (i / 2) = i by omega] at h1
    rw [hu2, e]
    exact h1
  · rw [show 2 * (i / 2) + 1 = i by omega] at h2
    rw [hu2, e]
    exact h2
theorem rX_one {Z : Nat → Nat → Value} (h : ∀ j f, (Z j f).oneCell' = true) {c : Nat} : ∀ n, ∀ u ∈ rX c Z n, u.oneCell' = true
  | 0, u, hu => by cases hu
  | n + 1, u, hu => by
    unfold rX at hu
    rcases List.mem_append.1 hu with hu | hu
    · exact rX_one h n u hu
    · exact (Array.all_eq_true_iff_forall_mem.1 (SC_one (n := c) (h n))) u (by simpa using hu)
/-- append of a packet's headers to the nil slice. -/
theorem wl_apN {ops : Array Oper} {rest : List Oper} {o : Oper} {a : Act} {w : World} {Q : Exit → Act → World → Prop} (hgd : o.guard = none) {s x : Operand} {v : Value} {l : List Ex}
    (ho : o.op = .call { callee := .builtin .append, args := #[s, x], argTypes := #[25, 25] }) (hs : a.eval s = .slice none 0 0) (hx : a.eval x = v) (hv : ExAt w v l) (hn : l.length * 24 ≤ 140737488355328)
    (h : ∀ v' w', w'.ownsRow w.heap.size 45 2 v' l.length (rX 2 (exW l) l.length) → Below w.heap.size w w' → wpList Try.prog ops Q rest (a.put o.dst v') w') : wpList Try.prog ops Q (o :: rest) a w := by
  obtain ⟨i0, hi, hz0, hz1, hz2⟩ := info_parts exInfo
  obtain ⟨ad, cap, rfl, hc⟩ := hv
  cases ad with
  | none =>
    have hl0 : l = [] := by
      cases l with
      | nil => rfl
      | cons y l =>
        obtain ⟨ad, e, _⟩ := hc 0 y rfl
        cases e
    subst hl0
    refine wpList_plain hgd fun K hK => ?_
    have hr : (Builtin.append_ #[25, 25] o.type #[.slice none 0 0, .slice none 0 cap]).run Try.prog w = .ok (.slice none 0 0) w := by
      simp [Builtin.append_, run_underlying Try.underlying25, sizeOf, typeInfo, hi, Builtin.lenOf, go_sem]
    unfold Oper.wp
    simp [execOp, ho, resolve, invoke, builtin, hs, hx, hr, Result.andThen]
    exact hK _ _ (h _ _ (World.ownsRow_nil w _ _ _) (Below.refl _ _))
  | some ad =>
    refine wpList_append_own w hgd s x 25 ho w.heap.size 45 i0 _ 2 24 Try.underlying25 hi hz0 hz1 hz2 (by show (SC 2 _).size = 2; rw [SC_size]) (by decide) _ 0 [] hs (World.ownsRow_nil w _ _ _) ad l.length cap (rX 2 (exW l) l.length) hx (rX_len _ _ _) (exW_row (fun j y hj => by
      obtain ⟨ad', e, _, h1, h2⟩ := hc j y hj
      injection e with e
      subst e
      exact ⟨h1, h2⟩)) (rX_one (fun j f => exV_one _ _) _) (by unfold maxLen; omega) (by rw [Nat.zero_add]; exact hn) (Nat.le_refl _) ?_
    intro v' w1 hown hg _
    rw [Nat.zero_add] at hown
    exact h v' w1 hown ⟨hg.os, hg.tape, hg.output, hg.size, fun k hk => hg.block k hk (by simp [Value.ownBlock])⟩
/-- append of one more, in whatever number. -/
theorem ap_rowB {ops : Array Oper} {rest : List Oper} {o : Oper} {a : Act} {w : World} {Q : Exit → Act → World → Prop} (hgd : o.guard = none) {s x : Operand} {t e : TypeId} {c by' : Nat} {z : Nat → Value} (ht : Try.prog.underlying t = some (.slice e)) (hi : (Try.prog.info? e).map (fun i => (i.zero, i.size, i.bytes)) = some (some (.agg (SC c z)), c, by')) (hc : 0 < c)
    (ho : o.op = .call { callee := .builtin .append, args := #[s, x], argTypes := #[t, t] })
    {B n b : Nat} {Z : Nat → Nat → Value} {v : Value} {y : Nat → Value} (hy : ∀ i, (y i).oneCell' = true) (hs : a.eval s = v) (hx : a.eval x = .slice (some ⟨b, 0, none⟩) 1 1) (hD : w.ownsRow B e c v n (rX c Z n)) (hg : SAt w b e c y) (hM : n + 1 ≤ maxLen) (hY : (n + 1) * by' ≤ 140737488355328) (hB : B ≤ w.heap.size)
    (h : ∀ v' w', w'.ownsRow B e c v' (n + 1) (rX c (setG Z n y) (n + 1)) → w.grownBy w' v.ownBlock → wpList Try.prog ops Q rest (a.put o.dst v') w') : wpList Try.prog ops Q (o :: rest) a w := by
  obtain ⟨i0, hi, hz0, hz1, hz2⟩ := info_parts hi
  have hz : (Value.agg (SC c z)).cells.size = c := by show (SC c z).size = c; rw [SC_size]
  have hln : (SC c y).toList.length = 1 * c := by rw [Array.length_toList, SC_size, Nat.one_mul]
  have hc' : ∀ j u, (SC c y).toList[j]? = some u → w.cell? ((⟨b, 0, none⟩ : Addr).add j) = some u := fun j u hj => by
    have hj2 : j < c := by have := (List.getElem?_eq_some_iff.1 hj).1; rwa [Array.length_toList, SC_size] at this
    rw [Addr.add_lit, Nat.zero_add, hg.at j hj2, ← SC_get c _ j hj2, ← Array.getElem?_toList, hj]
  have h1 : ∀ u ∈ (SC c y).toList, u.oneCell' = true := fun u hu => (Array.all_eq_true_iff_forall_mem.1 (SC_one (n := c) hy)) u (by simpa using hu)
  refine wpList_append_own w hgd s x t ho B e i0 _ c by' ht hi hz0 hz1 hz2 hz hc v n _ hs hD ⟨b, 0, none⟩ 1 1 _ hx hln hc' h1 hM hY hB ?_
  intro v' w1 hown hgrow _
  exact h v' w1 (by rw [rX_more]; exact hown) hgrow
theorem wl_bsX {ops : Array Oper} {rest : List Oper} {o : Oper} {a : Act} {w : World} {Q : Exit → Act → World → Prop} {y : Operand} {x : Ex} (ho : o.op = .buildSlice 25 1 #[(0, y)]) (hw : Region.wanted o (yielded ops a.tmps) = true) (hy : a.eval y = .agg (SC 2 (exV x)))
    (h : ∀ b w', w.heap.size ≤ b → SAt w' b 45 2 (exV x) → Below w.heap.size w w' → wpList Try.prog ops Q rest (a.put o.dst (.slice (some ⟨b, 0, none⟩) 1 1)) w') : wpList Try.prog ops Q (o :: rest) a w := by
  refine wl_act hw ?_
  have hr := run_bsX x w
  unfold Oper.wp execOp
  simp only [ho, List.map_toArray, List.map_cons, List.map_nil, hy, Sem.run_bind, hr, Result.andThen_ok, Sem.run_pure, Oper.upon]
  exact h _ _ (Nat.le_refl _) (heap_alloc_new w _) ((Below.refl _ w).alloc (Nat.le_refl _) _)
theorem run_bd77 (k : Int) (w : World) : (Instr.build 45 #[(0, .int .i64 k)]).run Try.prog w = .ok (.agg (SC 2 (exV ⟨k, ByteArray.empty⟩))) w := by kernel_rfl
theorem exec_bd77 {a : Act} {o : Oper} {w : World} {x : Operand} (ho : o.op = .build 45 #[(0, x)]) {k : Int} (hx : a.eval x = .int .i64 k) : (execOp a.eval o).run Try.prog w = .ok (.value (.agg (SC 2 (exV ⟨k, ByteArray.empty⟩)))) w := by
  unfold execOp
  simp only [ho, List.map_toArray, List.map_cons, List.map_nil, hx, Sem.run_bind, run_bd77, Result.andThen_ok, Sem.run_pure]
theorem slX (p : Addr) (n m c : Nat) (w : World) (h : m ≤ c) : (Instr.sliceAt 25 (.slice (some p) n c) none (some (.int .i64 (m : Int))) none).run Try.prog w = .ok (.slice (some p) m c) w := by
  have i1 : (m : Int) ≤ (c : Int) := by omega
  simp [go_sem, i1]
theorem exAt_only {w w' : World} {g q n cap : Nat} {l : List Ex} (h : ExAt w (.slice (some ⟨g, 0, none⟩) n cap) l) (hc : w.cell? ⟨g, 2 * n, none⟩ = some (.int .i64 77)) (hg : g < w.heap.size) (o : Only q w w') (hq : g ≠ q) : ExAt w' (.slice (some ⟨g, 0, none⟩) n cap) l ∧ g < w'.heap.size ∧ w'.cell? ⟨g, 2 * n, none⟩ = some (.int .i64 77) := by
  have hb := o.block g hq
  have hl : g < w'.heap.size := by
    have e : w.heap[g]? = some w.heap[g] := Array.getElem?_eq_getElem hg
    rw [← hb] at e
    exact heap_lt e
  refine ⟨?_, hl, by rw [World.cell?_of_block (w := w) (by exact hb)]; exact hc⟩
  obtain ⟨a, c, e, hh⟩ := h
  injection e with e1 e2 e3
  subst e1 e3
  refine ⟨some ⟨g, 0, none⟩, cap, by rw [e2], fun j x hj => ?_⟩
  obtain ⟨ad, ha, _, k1, k2⟩ := hh j x hj
  injection ha with ha
  subst ha
  exact ⟨_, rfl, hl, by rw [World.cell?_of_block (w := w) (by rw [add_blk]; exact hb)]; exact k1, by rw [World.cell?_of_block (w := w) (by rw [add_blk]; exact hb)]; exact k2⟩
end Go.Proofs.Ytdlepeogmjmleab
/-
  Own text. IpBuilds: a packet becomes just the bytes that the document says, or is refused; it stays as it is.
-/
namespace Go.Proofs.Ytdlepeogmjmleab
open Go.RowKit Go.Proofs
set_option maxRecDepth 100000
section
variable {a : Act} {o : Oper} {w : World} {x y : Operand}
theorem exec_eqEt {m n : Int} (h : m = n) (ho : o.op = .binOp .eql 29 x y 29) (hx : a.eval x = .int .i64 m) (hy : a.eval y = .int .i64 n) : (execOp a.eval o).run Try.prog w = .ok (.value (.bool true)) w := by
  have := cmp_eqE (w := w) ho hx hy
  rwa [decide_eq_true h] at this
theorem exec_eqIt {m n : Int} (h : m = n) (ho : o.op = .binOp .eql 3 x y 3) (hx : a.eval x = .int .i64 m) (hy : a.eval y = .int .i64 n) : (execOp a.eval o).run Try.prog w = .ok (.value (.bool true)) w := by
  have := cmp_eq (w := w) ho hx hy
  rwa [decide_eq_true h] at this
theorem exec_eqBt {m n : Bool} (h : m = n) (ho : o.op = .binOp .eql 4 x y 4) (hx : a.eval x = .bool m) (hy : a.eval y = .bool n) : (execOp a.eval o).run Try.prog w = .ok (.value (.bool true)) w := by
  have := cmp_eqB (w := w) ho hx hy
  rwa [beq_iff_eq.2 h] at this
end
theorem wl_box2P {ops : Array Oper} {rest : List Oper} {o1 o2 : Oper} {x y : Operand} {ty ty' : TypeId} {a : Act} {w : World} {Q : Exit → Act → World → Prop} {n n' : Nat} {V V' : Nat → Value} (h1 : o1.op = .box ty x) (h2 : o2.op = .box ty' y) (w1 : o1.guard = none) (w2 : o2.guard = none) (hA : IsSt ty n) (hA' : IsSt ty' n') (hx : a.eval x = .agg (SC n V)) (hy : ∀ u, (a.put o1.dst u).eval y = .agg (SC n' V'))
    (h : ∀ g g' w', w.heap.size ≤ g → g < g' → SAt w' g ty n V → SAt w' g' ty' n' V' → Below w.heap.size w w' → wpList Try.prog ops Q rest ((a.put o1.dst (.pointer (some ⟨g, 0, none⟩))).put o2.dst (.pointer (some ⟨g', 0, none⟩))) w') : wpList Try.prog ops Q (o1 :: o2 :: rest) a w := by
  have q1 : Region.wanted o1 (yielded ops a.tmps) = true := by unfold Region.wanted; rw [w1]
  refine wl_boxO h1 q1 hA hx (fun g u hg s1 b1 => ?_)
  have q2 : Region.wanted o2 (yielded ops (a.put o1.dst (.pointer (some ⟨g, 0, none⟩))).tmps) = true := by unfold Region.wanted; rw [w2]
  refine wl_boxO h2 q2 hA' (hy _) (fun g' u' hg' s2 b2 => ?_)
  exact h g g' u' hg (by have := SAt.lt s1; omega) (SAt.kept s1 b2) s2 (b1.trans (b2.mono b1.size))
/-- What is known of a packet that is an argument. -/
structure PkArg (P : Pk) : Prop where
  ok : PkOk P
  n : P.exts.length * 24 ≤ 140737488351232
  b : ∀ x ∈ P.exts, x.body.size ≤ 140737488355328
  p : P.pay.size ≤ 140737488355328
theorem PkArg.len {P : Pk} (h : PkArg P) : P.exts.length < 4611686018427387904 := by have := h.n; omega
end Go.Proofs.Ytdlepeogmjmleab
/-
  Own text. A packet as an argument.
-/
namespace Go.Proofs.Ytdlepeogmjmleab
open Go.ChangeShapes Go.WideShapes Go.ChangeAt Go.WideMaps Go.WideElems Go.RowKit Go.Proofs
set_option maxRecDepth 100000
theorem laid13 : laidOutB Try.prog = true := by kernel_rfl
theorem cells8 : Try.prog.cellsOf 5 = 1 := by kernel_rfl
theorem tk1 {cs : List Value} {o : Nat} {x : Value} (h : (cs.drop o).take 1 = [x]) : cs[o]? = some x := by
  have h1 : ((cs.drop o).take 1)[0]? = some x := by rw [h]; rfl
  rw [List.getElem?_take, if_pos (by omega), List.getElem?_drop] at h1
  simpa using h1
theorem tkN {cs : List Value} {o n i : Nat} (hi : i < n) : ((cs.drop o).take n)[i]? = cs[o + i]? := by
  rw [List.getElem?_take, if_pos hi, List.getElem?_drop]
theorem sc_list {cs : List Value} {n : Nat} {V : Nat → Value} (hl : cs.length = n) (h : ∀ i, i < n → cs[i]? = some (V i)) : cs = (SC n V).toList := by
  apply List.ext_getElem?
  intro i
  by_cases hi : i < n
  · rw [h i hi, Array.getElem?_toList, SC_get n V i hi]
  · rw [List.getElem?_eq_none (by omega), List.getElem?_eq_none (by rw [Array.length_toList, SC_size]; omega)]
def kOf : Value → Int
  | .int .i64 k => k
  | _ => 0
def sOf : Value → ByteArray
  | .string s => s
  | _ => ByteArray.empty
theorem weightsAll_mem {H : Type} {P : Program} {e : TypeId} : ∀ {l : List (DataW H)} {d : DataW H}, d ∈ l → ∀ n ∈ d.weights P e, n ∈ DataW.weightsAll P e l
  | [], _, h, _, _ => by cases h
  | a :: l, d, h, n, hn => by
    unfold DataW.weightsAll
    rcases List.mem_cons.1 h with rfl | h
    · exact List.mem_append.2 (.inl hn)
    · exact List.mem_append.2 (.inr (weightsAll_mem h n hn))
theorem sized_all {H : Type} {P : Program} {ts : List TypeId} {ds : List (DataW H)} (h : (DataW.weightsEach P ts ds).all (· ≤ reachBytes) = true) {j : Nat} {t : TypeId} {d : DataW H} (ht : ts[j]? = some t) (hd : ds[j]? = some d) : ∀ n ∈ d.weights P t, n ≤ reachBytes := fun n hn => by
  simpa using List.all_eq_true.1 h n (DataW.weights_mem_each ht hd n hn)
section
variable {H : Type} {enc : TypeId × Value → H} {w : World} {base : Nat} {sp : Nat → Bool} {held : Bool} {fuel : Nat} {cs : List Value} {x : DataW H × List MemPlace}
theorem trod_16 (h : DataW.trod enc Try.prog w base sp held fuel 22 cs = some x) : ∃ b, Byts 16 b ∧ (∀ i, i < 16 → cs[i]? = some (.int .u8 (b i))) := by
  obtain ⟨xs, m, _, hx, _, hl, hel⟩ := DataW.trod_array Try.underlying22 h
  have key : ∀ i, i < 16 → ∃ k : Int, cs[i]? = some (.int .u8 k) ∧ (0 ≤ k ∧ k < 256) := fun i hi => by
    have hi' := hel i hi
    rw [cells8, Nat.mul_one] at hi'
    have hxs : i < xs.length := by omega
    rw [List.getElem?_eq_getElem hxs] at hi'
    obtain ⟨k, e1, e2, wk⟩ := DataW.trod_int Try.underlying5 hi'
    have := bounds_u8 wk
    exact ⟨k, tk1 e1, by omega⟩
  refine ⟨fun i => match cs[i]? with | some (.int .u8 k) => k | _ => 0, fun i hi => ?_, fun i hi => ?_⟩
  · obtain ⟨k, e, hk⟩ := key i hi
    simp only [e]
    exact hk
  · obtain ⟨k, e, hk⟩ := key i hi
    simp only [e]
theorem adF : ∃ f0 f1 : Field, Try.prog.underlying 24 = some (.struct #[f0, f1]) ∧ f0.type = 4 ∧ f1.type = 22 ∧ f0.offset = 0 ∧ f1.offset = 1 := ⟨_, _, Try.underlying24, rfl, rfl, rfl, rfl⟩
theorem cAd : Try.prog.cellsOf 24 = 17 := by kernel_rfl
theorem cBo : Try.prog.cellsOf 4 = 1 := by kernel_rfl
theorem cIn : Try.prog.cellsOf 3 = 1 := by kernel_rfl
theorem cSt : Try.prog.cellsOf 9 = 1 := by kernel_rfl
theorem cEs : Try.prog.cellsOf 25 = 1 := by kernel_rfl
theorem c16 : Try.prog.cellsOf 22 = 16 := by kernel_rfl
theorem cPk : Try.prog.cellsOf 27 = 46 := by kernel_rfl
theorem trod_ad (h : DataW.trod enc Try.prog w base sp held fuel 24 cs = some x) : ∃ v b, Byts 16 b ∧ (∀ i, i < 17 → cs[i]? = some (adV v b i)) := by
  obtain ⟨f0, f1, hu, e0, e1, o0, o1⟩ := adF
  obtain ⟨y0, y1, n, hx, hl, h0, h1⟩ := trod_struct2 hu h
  rw [e0, o0, cBo] at h0
  rw [e1, o1, c16] at h1
  obtain ⟨v, hv, hv2⟩ := DataW.trod_bool Try.underlying4 h0
  obtain ⟨b, hb, hbs⟩ := trod_16 h1
  refine ⟨v, b, hb, fun i hi => ?_⟩
  by_cases e : i < 1
  · obtain rfl : i = 0 := by omega
    exact tk1 hv
  · have := hbs (i - 1) (by omega)
    rw [tkN (by omega), show 1 + (i - 1) = i by omega] at this
    rw [this]
    unfold adV
    rw [if_neg e]
theorem exF : ∃ f0 f1 : Field, Try.prog.underlying 45 = some (.struct #[f0, f1]) ∧ f0.type = 3 ∧ f1.type = 9 ∧ f0.offset = 0 ∧ f1.offset = 1 := ⟨_, _, Try.underlying45, rfl, rfl, rfl, rfl⟩
theorem bytesEx : Try.prog.bytesOf 45 = 24 := by kernel_rfl
theorem open_exs (h : DataW.trod enc Try.prog w base sp held fuel 25 cs = some x) : ∃ vs l, cs = [vs] ∧ ExAt w vs l ∧ ((∀ n ∈ x.1.weights Try.prog 25, n ≤ reachBytes) → l.length * 24 ≤ reachBytes ∧ ∀ y ∈ l, y.body.size ≤ reachBytes) := by
  obtain ⟨f0, f1, hu, e0, e1, o0, o1⟩ := exF
  rcases Go.Deep.open_slice_pairs Try.underlying25 hu (by kernel_rfl) o0 o1 (by rw [e0]; exact cIn) (by rw [e1]; exact cSt) h with ⟨hcs, hx⟩ | ⟨a, len, cap, m, n, V0, V1, D0, D1, P0, P1, hcs, hb, hl, hm, hmm, hx, hcell⟩
  · exact ⟨_, [], hcs, ExAt.nil w, fun _ => ⟨Nat.zero_le _, fun y hy => by cases hy⟩⟩
  have hle : len ≤ m := by rw [hmm]; split <;> omega
  have each : ∀ i, i < len → V0 i = .int .i64 (kOf (V0 i)) ∧ V1 i = .string (sOf (V1 i)) ∧ D1 i = .lit (.string (sOf (V1 i)).data.toList) := fun i hi => by
    obtain ⟨_, _, t0, t1⟩ := hcell i (by omega)
    rw [e0] at t0
    rw [e1] at t1
    obtain ⟨k, q1, _, _⟩ := DataW.trod_int Try.underlying3 t0
    obtain ⟨s, q2, q3, _⟩ := DataW.trod_string Try.underlying9 t1
    injection q1 with q1
    injection q2 with q2
    injection q3 with q3
    rw [q1, q2, q3]
    exact ⟨rfl, rfl, rfl⟩
  have hat : ∀ j y, ((List.range len).map fun i => Ex.mk (kOf (V0 i)) (sOf (V1 i)))[j]? = some y → j < len ∧ y = ⟨kOf (V0 j), sOf (V1 j)⟩ := fun j y hj => by
    have hjl : j < len := by
      have := (List.getElem?_eq_some_iff.1 hj).1
      simpa using this
    rw [List.getElem?_map, List.getElem?_range hjl] at hj
    exact ⟨hjl, (Option.some.inj hj).symm⟩
  refine ⟨_, (List.range len).map fun i => ⟨kOf (V0 i), sOf (V1 i)⟩, hcs, ⟨some a, cap, by simp, fun j y hj => ?_⟩, fun hw => ⟨?_, fun y hy => ?_⟩⟩
  · obtain ⟨hjl, rfl⟩ := hat j y hj
    obtain ⟨t0, t1, _, _⟩ := hcell j (by omega)
    obtain ⟨q0, q1, _⟩ := each j hjl
    rw [q0, Nat.mul_comm] at t0
    rw [q1, Nat.mul_comm] at t1
    have hbk := World.block_lt_of_cell? w _ t0
    rw [add_blk] at hbk
    exact ⟨a, rfl, hbk, t0, t1⟩
  · have h1 := hw ((len + (m - len)) * 24) (by
      rw [hx]
      unfold DataW.weights
      rw [Try.underlying25]
      simp only [List.length_map, List.length_range]
      show _ ∈ (_ * Try.prog.bytesOf 45) :: _
      rw [bytesEx]
      exact List.mem_cons_self ..)
    simp only [List.length_map, List.length_range]
    omega
  · obtain ⟨i, hi, rfl⟩ := List.mem_map.1 hy
    have hil : i < len := List.mem_range.1 hi
    obtain ⟨_, _, q3⟩ := each i hil
    refine hw (sOf (V1 i)).size ?_
    rw [hx]
    unfold DataW.weights
    rw [Try.underlying25]
    refine List.mem_cons_of_mem _ (List.mem_append.2 (.inl (weightsAll_mem (d := .agg [D0 i, D1 i]) (List.mem_map.2 ⟨i, hi, rfl⟩) _ ?_)))
    unfold DataW.weights
    rw [hu]
    show _ ∈ DataW.weightsEach Try.prog [f0.type, f1.type] [D0 i, D1 i]
    unfold DataW.weightsEach
    refine List.mem_append.2 (.inr ?_)
    unfold DataW.weightsEach
    refine List.mem_append.2 (.inl ?_)
    rw [q3]
    unfold DataW.weights
    exact List.mem_singleton.2 rfl
theorem pkF : ∃ f0 f1 f2 f3 f4 f5 f6 f7 f8 f9 f10 f11 f12 f13 : Field, Try.prog.underlying 27 = some (.struct #[f0, f1, f2, f3, f4, f5, f6, f7, f8, f9, f10, f11, f12, f13]) ∧ f0.type = 24 ∧ f0.offset = 0 ∧ f1.type = 24 ∧ f1.offset = 17 ∧ f2.type = 3 ∧ f2.offset = 34 ∧ f3.type = 3 ∧ f3.offset = 35 ∧ f4.type = 3 ∧ f4.offset = 36 ∧ f5.type = 3 ∧ f5.offset = 37 ∧ f6.type = 3 ∧ f6.offset = 38 ∧ f7.type = 4 ∧ f7.offset = 39 ∧ f8.type = 4 ∧ f8.offset = 40 ∧ f9.type = 9 ∧ f9.offset = 41 ∧ f10.type = 3 ∧ f10.offset = 42 ∧ f11.type = 25 ∧ f11.offset = 43 ∧ f12.type = 4 ∧ f12.offset = 44 ∧ f13.type = 9 ∧ f13.offset = 45 := ⟨_, _, _, _, _, _, _, _, _, _, _, _, _, _, Try.underlying27, rfl, rfl, rfl, rfl, rfl, rfl, rfl, rfl, rfl, rfl, rfl, rfl, rfl, rfl, rfl, rfl, rfl, rfl, rfl, rfl, rfl, rfl, rfl, rfl, rfl, rfl, rfl, rfl⟩
end
section
variable {H : Type} {enc : TypeId × Value → H} {W : World} {base : Nat} {sp : Nat → Bool} {v : Value} {d : DataW H} {p : List MemPlace}
/-- An argument that is a packet. -/
theorem open_pk (hv : Value.okWide Try.prog W .any base 27 v) (h : DataW.Trod enc Try.prog W 0 sp true 27 v d p) : ∃ P vs, PkOk P ∧ v = .agg (SC 46 (pkV P vs)) ∧ ExAt W vs P.exts ∧ ((∀ n ∈ d.weights Try.prog 27, n ≤ reachBytes) → PkArg P) := by
  obtain ⟨cs, rfl, hsz, _⟩ : ∃ cs, v = .agg cs ∧ cs.size = Try.prog.cellsOf 27 ∧ Row.okWide Try.prog W .any base 27 cs := by
    simpa [Value.okWide, Try.underlying27] using hv
  obtain ⟨fuel, hf⟩ := h
  obtain ⟨f0, f1, f2, f3, f4, f5, f6, f7, f8, f9, f10, f11, f12, f13, hu, e0, o0, e1, o1, e2, o2, e3, o3, e4, o4, e5, o5, e6, o6, e7, o7, e8, o8, e9, o9, e10, o10, e11, o11, e12, o12, e13, o13⟩ := pkF
  obtain ⟨xs, n', _, hxx, hl, hxl, hff⟩ := DataW.trod_struct hu hf
  rw [cPk] at hl
  obtain ⟨y0, y1, y2, y3, y4, y5, y6, y7, y8, y9, y10, y11, y12, y13, rfl⟩ : ∃ y0 y1 y2 y3 y4 y5 y6 y7 y8 y9 y10 y11 y12 y13, xs = [y0, y1, y2, y3, y4, y5, y6, y7, y8, y9, y10, y11, y12, y13] := by
    match xs, hxl with
    | [c0, c1, c2, c3, c4, c5, c6, c7, c8, c9, c10, c11, c12, c13], _ => exact ⟨_, _, _, _, _, _, _, _, _, _, _, _, _, _, rfl⟩
  have g0 := hff 0 f0 rfl
  rw [e0, o0, cAd] at g0
  have g1 := hff 1 f1 rfl
  rw [e1, o1, cAd] at g1
  have g2 := hff 2 f2 rfl
  rw [e2, o2, cIn] at g2
  have g3 := hff 3 f3 rfl
  rw [e3, o3, cIn] at g3
  have g4 := hff 4 f4 rfl
  rw [e4, o4, cIn] at g4
  have g5 := hff 5 f5 rfl
  rw [e5, o5, cIn] at g5
  have g6 := hff 6 f6 rfl
  rw [e6, o6, cIn] at g6
  have g7 := hff 7 f7 rfl
  rw [e7, o7, cBo] at g7
  have g8 := hff 8 f8 rfl
  rw [e8, o8, cBo] at g8
  have g9 := hff 9 f9 rfl
  rw [e9, o9, cSt] at g9
  have g10 := hff 10 f10 rfl
  rw [e10, o10, cIn] at g10
  have g11 := hff 11 f11 rfl
  rw [e11, o11, cEs] at g11
  have g12 := hff 12 f12 rfl
  rw [e12, o12, cBo] at g12
  have g13 := hff 13 f13 rfl
  rw [e13, o13, cSt] at g13
  obtain ⟨sv, sb, hsb, hs⟩ := trod_ad g0
  obtain ⟨dv, db, hdb, hd⟩ := trod_ad g1
  obtain ⟨pr, h2, _, _⟩ := DataW.trod_int Try.underlying3 g2
  obtain ⟨ho, h3, _, _⟩ := DataW.trod_int Try.underlying3 g3
  obtain ⟨cl, h4, _, _⟩ := DataW.trod_int Try.underlying3 g4
  obtain ⟨id, h5, _, _⟩ := DataW.trod_int Try.underlying3 g5
  obtain ⟨off, h6, _, _⟩ := DataW.trod_int Try.underlying3 g6
  obtain ⟨fl, h10, _, _⟩ := DataW.trod_int Try.underlying3 g10
  obtain ⟨mo, h7, _⟩ := DataW.trod_bool Try.underlying4 g7
  obtain ⟨st, h8, _⟩ := DataW.trod_bool Try.underlying4 g8
  obtain ⟨cu, h12, _⟩ := DataW.trod_bool Try.underlying4 g12
  obtain ⟨op, h9, _, _⟩ := DataW.trod_string Try.underlying9 g9
  obtain ⟨py, h13, k13, _⟩ := DataW.trod_string Try.underlying9 g13
  obtain ⟨vs, l, h11, hE, hwt⟩ := open_exs g11
  obtain ⟨rfl, _⟩ := Prod.mk.inj hxx
  refine ⟨⟨sv, sb, dv, db, pr, ho, cl, id, off, mo, st, op, fl, l, cu, py⟩, vs, ⟨hsb, hdb⟩, ?_, hE, fun hw => ?_⟩
  · have e2 : cs.toList = (SC 46 (pkV ⟨sv, sb, dv, db, pr, ho, cl, id, off, mo, st, op, fl, l, cu, py⟩ vs)).toList := sc_list hl (fun i hi => by
      unfold pkV
      by_cases c1 : i < 17
      · have := hs i c1
        rw [tkN c1, Nat.zero_add] at this
        rw [if_pos c1]
        exact this
      · by_cases c2 : i < 34
        · have := hd (i - 17) (by omega)
          rw [tkN (by omega), show 17 + (i - 17) = i by omega] at this
          rw [if_neg c1, if_pos c2]
          exact this
        · rw [if_neg c1, if_neg c2]
          obtain ⟨j, rfl⟩ : ∃ j, i = 34 + j := ⟨i - 34, by omega⟩
          rw [Nat.add_sub_cancel_left]
          match j, (show j < 12 by omega) with
          | 0, _ => exact tk1 h2
          | 1, _ => exact tk1 h3
          | 2, _ => exact tk1 h4
          | 3, _ => exact tk1 h5
          | 4, _ => exact tk1 h6
          | 5, _ => exact tk1 h7
          | 6, _ => exact tk1 h8
          | 7, _ => exact tk1 h9
          | 8, _ => exact tk1 h10
          | 9, _ => exact tk1 h11
          | 10, _ => exact tk1 h12
          | 11, _ => exact tk1 h13
          )
    exact congrArg Value.agg (Array.toList_inj.1 e2)
  · have mem : ∀ (j : Nat) (t : TypeId) (dd : DataW H), ([f0.type, f1.type, f2.type, f3.type, f4.type, f5.type, f6.type, f7.type, f8.type, f9.type, f10.type, f11.type, f12.type, f13.type] : List TypeId)[j]? = some t → ([y0.1, y1.1, y2.1, y3.1, y4.1, y5.1, y6.1, y7.1, y8.1, y9.1, y10.1, y11.1, y12.1, y13.1] : List (DataW H))[j]? = some dd → ∀ n ∈ dd.weights Try.prog t, n ≤ reachBytes := fun j t dd ht hdd n hn => by
      refine hw n ?_
      unfold DataW.weights
      rw [hu]
      exact DataW.weights_mem_each (j := j) ht hdd n hn
    have m11 := hwt (fun n hn => mem 11 _ _ (by rw [← e11]; rfl) rfl n hn)
    have m13 := mem 13 9 y13.1 (by rw [← e13]; rfl) rfl py.size (by
      rw [k13]
      unfold DataW.weights
      exact List.mem_singleton.2 rfl)
    have hr : reachBytes = 140737488351232 := rfl
    rw [hr] at m11 m13
    exact ⟨⟨hsb, hdb⟩, m11.1, fun x hx => by have := m11.2 x hx; omega, by show py.size ≤ _; omega⟩
end
end Go.Proofs.Ytdlepeogmjmleab
/-
  Own text. IpBack: what was built is read again as the packet that it was, whatever stands behind it.
-/
namespace Go.Proofs.Ytdlepeogmjmleab
open Go.RowKit Go.Proofs
set_option maxRecDepth 100000
theorem bld_no {P : Pk} (h : rgtP P = false) : bldT P = ByteArray.empty ∧ bldE P = 1 := by
  unfold bldT bldE
  rw [h]
  exact ⟨rfl, rfl⟩
theorem bld_big {P : Pk} (h : rgtP P = true) (hf : fitP P = false) : bldT P = ByteArray.empty ∧ bldE P = 75 := by
  unfold bldT bldE
  rw [h, hf]
  exact ⟨rfl, rfl⟩
theorem bld_yes {P : Pk} (h : rgtP P = true) (hf : fitP P = true) : bldE P = 0 := by
  unfold bldE
  rw [h, hf]
  rfl
theorem fit_size {P : Pk} (h : rgtP P = true) (hf : fitP P = true) : (bldT P).size ≤ 65575 := by
  rw [bld_size h hf]
  unfold sizeP
  rw [if_pos h]
  unfold fitP at hf
  split at hf
  · exact of_decide_eq_true hf
  · have := of_decide_eq_true hf
    omega
theorem rgt_exts4 {P : Pk} (h : rgtP P = true) : P.exts.length ≤ 4 := by
  obtain ⟨_, _, _, _, _, _, _, _, hr⟩ := rgtP_iff.1 h
  split at hr
  · obtain ⟨_, _, _, hx, _⟩ := rgt6_iff.1 hr
    rcases exsOk_len hx with e | e
    · rw [e]; decide
    · omega
  · obtain ⟨_, _, _, _, hx, _⟩ := rgt4_iff.1 hr
    rw [hx]
    decide
end Go.Proofs.Ytdlepeogmjmleab
