/-
  Own text. The document's answer for replay: Top and Clamp.
-/
import Derived.Test.YtjnknhgjlllhjaaJ1
import Derived.Laws.AppendOwnNone
namespace Go.Proofs.Ytjnknhgjlllhjaa
open Go.RowKit Go.Proofs
set_option maxRecDepth 100000
/-- One more than the greatest of the first n. -/
def topF (s : Nat → Int) : Nat → Int
  | 0 => 0
  | n + 1 => if topF s n < s n + 1 then s n + 1 else topF s n
theorem topF_succ (s : Nat → Int) (n : Nat) : topF s (n + 1) = if topF s n < s n + 1 then s n + 1 else topF s n := rfl
theorem topF_range {s : Nat → Int} : ∀ {n : Nat}, (∀ i, i < n → 0 ≤ s i ∧ s i < 18446744073709551615) → 0 ≤ topF s n ∧ topF s n < 18446744073709551616
  | 0, _ => by simp [topF]
  | n + 1, h => by
    have h1 := topF_range (n := n) (fun i hi => h i (by omega))
    have h2 := h n (by omega)
    unfold topF
    split <;> omega
theorem topF_le {s : Nat → Int} : ∀ {n i : Nat}, i < n → s i + 1 ≤ topF s n
  | n + 1, i, h => by
    unfold topF
    by_cases e : i = n
    · subst e; split <;> omega
    · have := topF_le (s := s) (n := n) (i := i) (by omega)
      split <;> omega
theorem topF_some {s : Nat → Int} : ∀ {n : Nat}, 0 < n → (∀ i, i < n → 0 ≤ s i) → ∃ i, i < n ∧ topF s n = s i + 1
  | n + 1, _, h => by
    unfold topF
    by_cases e : topF s n < s n + 1
    · rw [if_pos e]; exact ⟨n, by omega, rfl⟩
    · rw [if_neg e]
      by_cases hn : 0 < n
      · obtain ⟨i, hi, he⟩ := topF_some (s := s) hn (fun i hi => h i (by omega))
        exact ⟨i, by omega, he⟩
      · obtain rfl : n = 0 := by omega
        have := h 0 (by omega)
        simp only [topF] at e ⊢
        omega
theorem topF_congr {s t : Nat → Int} : ∀ {n : Nat}, (∀ i, i < n → s i = t i) → topF s n = topF t n
  | 0, _ => rfl
  | n + 1, h => by
    unfold topF
    rw [topF_congr (n := n) (fun i hi => h i (by omega)), h n (by omega)]
set_option maxHeartbeats 4000000 in
theorem rTop_run {w : World} {B b : Nat} {sz last : Int} {v : Value} {n : Nat} {s : Nat → Int} (hn : n < 1000000) (hs : ∀ i, i < n → 0 ≤ s i ∧ s i < 18446744073709551615) (hW : WinD w B b sz last v n s) :
    Calls Try.prog 19 #[.pointer (some ⟨b, 0, none⟩)] w fun e w' => e = .returned (.int .u64 (topF s n)) ∧ w' = w := by
  obtain ⟨p, cp, rfl, hp⟩ := own_view hW.row
  have c2 := hW.c2
  have HP := Hid.mk hp
  have HS := Hid.mk hs
  clear hW hp hs
  go_enter Try.func19, Try.ntmps19
  go_wp2
  go_loopw [3, 4] (fun t i v => ∃ k : Nat, k ≤ n ∧ i = .int .i64 k ∧ t = .int .u64 (topF s k) ∧ v = w) (fun _ i _ => n - (intOf i).toNat)
  case atStart => exact ⟨0, by omega, rfl, rfl, rfl⟩
  case round =>
    obtain ⟨k, hk, rfl, rfl, rfl⟩ := hrel
    by_cases hlt : k < n
    · obtain ⟨g, rfl, cx⟩ := HP.out k hlt
      have hu := HS.out k hlt
      have ht := topF_range (s := s) (n := k) (fun i hi => HS.out i (by omega))
      by_cases hx : topF s k < s k + 1
      · have HX := Hid.mk (show topF s (k + 1) = s k + 1 by rw [topF_succ, if_pos hx])
        generalize topF s k = t at *
        generalize s k = x at *
        go_wp2
        go_roundw
        case rel => exact ⟨k + 1, by omega, by go_num, by rw [HX.out], by first | trivial | rfl⟩
        case measure => simp [intOf]; omega
      · have HX := Hid.mk (show topF s (k + 1) = topF s k by rw [topF_succ, if_neg hx])
        generalize topF s k = t at *
        generalize s k = x at *
        go_wp2
        go_roundw
        case rel => exact ⟨k + 1, by omega, by go_num, by rw [HX.out], by first | trivial | rfl⟩
        case measure => simp [intOf]; omega
    · obtain rfl : k = n := by omega
      go_wp2
      go_ret
      exact ⟨rfl, rfl⟩
def clampF (x : Int) : Int := if x < 1 then 1 else if 8192 < x then 8192 else x
set_option maxHeartbeats 1000000 in
theorem rClamp_run (x : Int) (w : World) : Calls Try.prog 10 #[.int .i64 x] w fun e w' => e = .returned (.int .i64 (clampF x)) ∧ w' = w := by
  unfold clampF
  by_cases h1 : x < 1
  · rw [if_pos h1]
    go_enter Try.func10, Try.ntmps10
    go_wp2
    go_ret
    exact ⟨rfl, rfl⟩
  · rw [if_neg h1]
    by_cases h2 : 8192 < x
    · rw [if_pos h2]
      go_enter Try.func10, Try.ntmps10
      go_wp2
      go_ret
      exact ⟨rfl, rfl⟩
    · rw [if_neg h2]
      go_enter Try.func10, Try.ntmps10
      go_wp2
      go_ret
      exact ⟨rfl, rfl⟩
theorem clampF_range (x : Int) : 1 ≤ clampF x ∧ clampF x ≤ 8192 := by
  unfold clampF
  split
  · omega
  · split <;> omega
end Go.Proofs.Ytjnknhgjlllhjaa
/-
  Own text. The document's answer for replay: Came; the numbers of an insertion.
-/
namespace Go.Proofs.Ytjnknhgjlllhjaa
open Go.RowKit Go.Proofs
set_option maxRecDepth 100000
/-- f, of length m: rising, just those of the first k that are not late. -/
def CameI (s : Nat → Int) (sz T : Int) (k m : Nat) (f : Nat → Int) : Prop := m ≤ k ∧ (∀ i j, i < j → j < m → f i < f j) ∧ ∀ x, (∃ i, i < m ∧ f i = x) ↔ ∃ i, i < k ∧ s i = x ∧ T - 1 - x < sz
def insF (at' : Nat) (f : Nat → Int) (x : Int) : Nat → Int := cat (at' + 1) (cat at' f (fun _ => x)) (fun j => f (at' + j))
theorem insF_lt {p : Nat} {f : Nat → Int} {x : Int} {i : Nat} (h : i < p) : insF p f x i = f i := by
  unfold insF cat
  rw [if_pos (by omega), if_pos h]
theorem insF_at {p : Nat} {f : Nat → Int} {x : Int} : insF p f x p = x := by
  unfold insF cat
  rw [if_pos (by omega), if_neg (by omega)]
theorem insF_gt {p : Nat} {f : Nat → Int} {x : Int} {i : Nat} (h : p < i) : insF p f x i = f (i - 1) := by
  unfold insF cat
  rw [if_neg (by omega)]
  show f (p + (i - (p + 1))) = _
  rw [show p + (i - (p + 1)) = i - 1 by omega]
theorem came_start (s : Nat → Int) (sz T : Int) (f : Nat → Int) : CameI s sz T 0 0 f := ⟨Nat.le_refl _, fun _ _ _ h => by omega, fun x => ⟨fun ⟨i, h, _⟩ => by omega, fun ⟨i, h, _⟩ => by omega⟩⟩
theorem came_skip {s : Nat → Int} {sz T : Int} {k m : Nat} {f : Nat → Int} (h : CameI s sz T k m f) (hx : sz ≤ T - 1 - s k) : CameI s sz T (k + 1) m f := by
  refine ⟨by have := h.1; omega, h.2.1, fun x => (h.2.2 x).trans ⟨fun ⟨i, h1, h2⟩ => ⟨i, by omega, h2⟩, fun ⟨i, h1, h2, h3⟩ => ?_⟩⟩
  by_cases e : i = k
  · subst e; subst h2; omega
  · exact ⟨i, by omega, h2, h3⟩
theorem came_put {s : Nat → Int} {sz T : Int} {k m p : Nat} {f : Nat → Int} (h : CameI s sz T k m f) (hx : T - 1 - s k < sz) (hd : ∀ i, i < k → s i ≠ s k) (hp : p ≤ m) (hl : ∀ i, i < p → f i < s k) (hr : p < m → s k ≤ f p) :
    CameI s sz T (k + 1) (m + 1) (insF p f (s k)) := by
  have hne : ∀ i, i < m → f i ≠ s k := fun i hi e => by
    obtain ⟨j, hj, e1, _⟩ := (h.2.2 (s k)).1 ⟨i, hi, e⟩
    exact hd j hj e1
  have hgt : ∀ i, p ≤ i → i < m → s k < f i := fun i h1 h2 => by
    have a1 := hr (by omega)
    have a2 := hne i h2
    by_cases e : i = p
    · subst e; omega
    · have a3 := h.2.1 p i (by omega) h2
      omega
  refine ⟨by have := h.1; omega, fun i j hij hj => ?_, fun x => ⟨?_, ?_⟩⟩
  · by_cases h1 : i < p
    · rw [insF_lt h1]
      by_cases h2 : j < p
      · rw [insF_lt h2]; exact h.2.1 i j hij (by omega)
      · by_cases h3 : j = p
        · subst h3; rw [insF_at]; exact hl i h1
        · rw [insF_gt (by omega)]
          have a1 := hl i h1
          have a2 := hgt (j - 1) (by omega) (by omega)
          omega
    · by_cases h2 : i = p
      · subst h2
        rw [insF_at, insF_gt hij]
        exact hgt (j - 1) (by omega) (by omega)
      · rw [insF_gt (by omega), insF_gt (by omega)]
        exact h.2.1 (i - 1) (j - 1) (by omega) (by omega)
  · rintro ⟨i, hi, rfl⟩
    by_cases h1 : i < p
    · rw [insF_lt h1]
      obtain ⟨j, hj, e1, e2⟩ := (h.2.2 (f i)).1 ⟨i, by omega, rfl⟩
      exact ⟨j, by omega, e1, e2⟩
    · by_cases h2 : i = p
      · subst h2
        rw [insF_at]
        exact ⟨k, by omega, rfl, hx⟩
      · rw [insF_gt (by omega)]
        obtain ⟨j, hj, e1, e2⟩ := (h.2.2 (f (i - 1))).1 ⟨i - 1, by omega, rfl⟩
        exact ⟨j, by omega, e1, e2⟩
  · rintro ⟨j, hj, e1, e2⟩
    by_cases e : j = k
    · subst e
      exact ⟨p, by omega, by rw [insF_at]; exact e1⟩
    · obtain ⟨i, hi, e3⟩ := (h.2.2 x).2 ⟨j, by omega, e1, e2⟩
      by_cases h1 : i < p
      · exact ⟨i, by omega, by rw [insF_lt h1]; exact e3⟩
      · exact ⟨i + 1, by omega, by rw [insF_gt (by omega)]; exact e3⟩
/-- Two rising rows of the same numbers are one. -/
theorem rising_same : ∀ {m m' : Nat} {f g : Nat → Int}, (∀ i j, i < j → j < m → f i < f j) → (∀ i j, i < j → j < m' → g i < g j) → (∀ x, (∃ i, i < m ∧ f i = x) ↔ ∃ i, i < m' ∧ g i = x) → m = m' ∧ ∀ i, i < m → f i = g i := by
  intro m
  induction m with
  | zero =>
    intro m' f g _ _ h
    refine ⟨?_, fun i hi => by omega⟩
    by_cases e : 0 < m'
    · obtain ⟨i, hi, _⟩ := (h (g 0)).2 ⟨0, e, rfl⟩
      omega
    · omega
  | succ m ih =>
    intro m' f g hf hg h
    have hm' : 0 < m' := by
      obtain ⟨i, hi, _⟩ := (h (f m)).1 ⟨m, by omega, rfl⟩
      omega
    obtain ⟨q, rfl⟩ : ∃ q, m' = q + 1 := ⟨m' - 1, by omega⟩
    have htop : f m = g q := by
      obtain ⟨i, hi, e1⟩ := (h (f m)).1 ⟨m, by omega, rfl⟩
      obtain ⟨j, hj, e2⟩ := (h (g q)).2 ⟨q, by omega, rfl⟩
      have a1 : g i ≤ g q := by
        by_cases e : i = q
        · subst e; omega
        · have := hg i q (by omega) (by omega); omega
      have a2 : f j ≤ f m := by
        by_cases e : j = m
        · subst e; omega
        · have := hf j m (by omega) (by omega); omega
      omega
    have := ih (m' := q) (f := f) (g := g) (fun i j h1 h2 => hf i j h1 (by omega)) (fun i j h1 h2 => hg i j h1 (by omega)) (fun x => ⟨?_, ?_⟩)
    · refine ⟨by omega, fun i hi => ?_⟩
      by_cases e : i = m
      · subst e; rw [htop, this.1]
      · exact this.2 i (by omega)
    · rintro ⟨i, hi, rfl⟩
      obtain ⟨j, hj, e⟩ := (h (f i)).1 ⟨i, by omega, rfl⟩
      refine ⟨j, ?_, e⟩
      by_cases e2 : j = q
      · subst e2
        have := hf i m hi (by omega)
        omega
      · omega
    · rintro ⟨i, hi, rfl⟩
      obtain ⟨j, hj, e⟩ := (h (g i)).2 ⟨i, by omega, rfl⟩
      refine ⟨j, ?_, e⟩
      by_cases e2 : j = m
      · subst e2
        have := hg i q hi (by omega)
        omega
      · omega
end Go.Proofs.Ytjnknhgjlllhjaa
/-
  Own text. The document's answer for replay: Came.
-/
namespace Go.Proofs.Ytjnknhgjlllhjaa
open Go.RowKit Go.Proofs
set_option maxRecDepth 100000
theorem cat_ins (q : Nat) (f0 f : Nat → Int) (x : Int) : cat (0 + q + 1) (cat (0 + q) (cat 0 f0 f) (fun _ => x)) (fun j => f (q + j)) = insF q f x := by
  funext i
  simp [insF, cat]
theorem cat_ins0 (f0 f : Nat → Int) (x : Int) : ∀ i, i < 0 + 1 → cat 0 f0 (fun _ => x) i = insF 0 f x i := fun i hi => by
  obtain rfl : i = 0 := by omega
  rw [insF_at]
  simp [cat]
set_option maxHeartbeats 16000000 in
theorem rCame_run {w : World} {B b : Nat} {sz last : Int} {v : Value} {n : Nat} {s : Nat → Int} (hn : n < 100000) (hsz : 0 ≤ sz ∧ sz ≤ 8192) (hs : ∀ i, i < n → 0 ≤ s i ∧ s i < 18446744073709551615) (hd : ∀ i j, i < j → j < n → s i ≠ s j) (hW : WinD w B b sz last v n s) :
    Calls Try.prog 21 #[.pointer (some ⟨b, 0, none⟩)] w fun e w' => ∃ vo m f, e = .returned vo ∧ w'.ownsRow w.heap.size 26 1 vo m (nums .u64 m f) ∧ CameI s sz (topF s n) n m f ∧ Below w.heap.size w w' := by
  have hrun := rTop_run (by omega) hs hW
  have HT := Hid.mk (fun i (hi : i < n) => topF_le (s := s) hi)
  have ht := topF_range hs
  generalize topF s n = T at *
  have HS := Hid.mk hs
  have HD := Hid.mk hd
  have HWW := Hid.mk hW
  obtain ⟨p, cp, rfl, hp⟩ := own_view hW.row
  clear hW hp hs hd
  go_enter Try.func21, Try.ntmps21
  go_wp2_with fail
  refine hrun.mono ?_
  rintro e v0 ⟨rfl, rfl⟩
  clear hrun
  go_wp2_with fail
  go_loopg [3, 5] n (fun gm vo iv v => ∃ (k m : Nat) (f : Nat → Int), Hid (gm + k = n) ∧ iv = .int .i64 (k : Int) ∧ v.ownsRow v0.heap.size 26 1 vo m (nums .u64 m f) ∧ Hid (m = 0 → vo = .slice none 0 0) ∧ Hid (CameI s sz T k m f) ∧ Below v0.heap.size v0 v)
  case atStart => exact ⟨0, 0, fun _ => 0, Hid.mk rfl, rfl, World.ownsRow_nil v0 _ _ _, Hid.mk (fun _ => rfl), Hid.mk (came_start _ _ _ _), Below.refl _ _⟩
  case round =>
    obtain ⟨k, m, f, HK, rfl, hO, HZ, HC, hB⟩ := hrel
    have hk : k ≤ n := by have := HK.out; omega
    have hmk := HC.out.1
    have hW := HWW.out.kept hB
    obtain ⟨p', cp', e, hp⟩ := own_view hW.row
    cases e
    have c0 := hW.c0
    have c2 := hW.c2
    clear hW
    by_cases hlt : k < n
    · obtain ⟨g, rfl, cx⟩ := hp k hlt
      clear hp
      have hu := HS.out k hlt
      have hT := HT.out k hlt
      by_cases hx : sz ≤ T - 1 - s k
      · have HX := Hid.mk (came_skip HC.out hx)
        clear HC
        generalize s k = x at *
        go_wp2_with fail
        go_roundg (n - (k + 1))
        case rel => exact ⟨k + 1, m, f, Hid.mk (by omega), by go_num, hO, HZ, HX, hB⟩
        case measure => have := HK.out; omega
      · have HX := Hid.mk (fun q (hq : q ≤ m) hl hr => came_put (p := q) HC.out (by omega) (fun i hi => HD.out i k hi hlt) hq hl hr)
        clear HC
        generalize s k = x at *
        obtain ⟨po, cpo, rfl, hpo⟩ := own_view hO
        go_wp2_with fail
        generalize wr = w1 at *
        generalize gk = g1 at *
        go_loopg [7] m (fun gm iv v => ∃ q : Nat, Hid (gm + q = m) ∧ iv = .int .i64 (q : Int) ∧ Hid (∀ i, i < q → f i < x) ∧ v = w1)
        case atStart => exact ⟨0, Hid.mk rfl, rfl, Hid.mk (fun i hi => by omega), rfl⟩
        case round =>
          obtain ⟨q, HQ, rfl, HL, rfl⟩ := hrel
          have hq : q ≤ m := by have := HQ.out; omega
          by_cases hqm : q < m
          · obtain ⟨go', rfl, cq⟩ := hpo q hqm
            by_cases hfx : f q < x
            · have HL' : Hid (∀ i, i < q + 1 → f i < x) := Hid.mk (fun i hi => by by_cases e : i = q; exact e ▸ hfx; exact HL.out i (by omega))
              clear HL hpo
              generalize f q = y at *
              go_wp2_with fail
              go_roundg (m - (q + 1))
              case rel => exact ⟨q + 1, Hid.mk (by omega), by go_num, HL', by first | trivial | rfl⟩
              case measure => have := HQ.out; omega
            · have HI := Hid.mk (HX.out q hq HL.out (fun _ => by omega))
              clear HX HL
              obtain ⟨_, _, e0, hgB, hcp, hR⟩ := own_row hO (by omega)
              cases e0
              clear hpo
              go_wp2_with (at_builtin; refine ap_own rfl _ _ 29 26 .u64 8 Try.underlying29 infoU64 (by decide) (by rfl) (n := 0) (m := q) (by rfl) (World.ownsRow_nil wr wr.heap.size _ _) (by rfl) (r := f) (f := fun _ => 0) (fun j hj => by rw [Nat.zero_add]; exact hR.cell j (by omega)) (by omega) (Nat.le_refl _) ?_; intro l1 v1 h1 hb1; refine Hid.out ?_)
              have ha := (Below.refl v1.heap.size v1).alloc (Nat.le_refl _) (.cells #[.int .u64 x] 26)
              replace h1 := own_kept h1 ha
              have hz1 := hb1.size
              have hR1 := (hR.below hb1 hR.lt).below ha (hR.below hb1 hR.lt).lt
              refine Hid.mk ?_
              go_wp2_with (at_builtin; refine ap_own rfl _ _ 29 26 .u64 8 Try.underlying29 infoU64 (by decide) (by rfl) (n := 0 + q) (m := 1) (by rfl) h1 (by rfl) (r := fun _ => x) (fun j hj => by obtain rfl : j = 0 := (by omega); exact cell_of_row _ _ 0 _ _ _ (heap_alloc_new v1 _)) (by omega) (by simp; omega) ?_; intro l2 v2 h2 hb2; refine Hid.out ?_)
              have hz2 := hb2.size
              have hR2 := hR1.below hb2 hR.lt
              refine Hid.mk ?_
              go_wp2_with (at_builtin; refine ap_own rfl _ _ 29 26 .u64 8 Try.underlying29 infoU64 (by decide) (by rfl) (n := 0 + q + 1) (m := m - q) (by rfl) h2 (by rfl) (r := fun j => f (q + j)) (fun j hj => hR2.cell (q + j) (by omega)) (by omega) (by have := ha.size; omega) ?_; intro l3 v3 h3 hb3; refine Hid.out ?_)
              rw [cat_ins, show 0 + q + 1 + (m - q) = m + 1 by omega] at h3
              have hBB : Below v0.heap.size v0 v3 := hB.trans ((((hb1.trans (ha.mono hz1)).trans hb2).trans hb3).mono hB.size)
              clear h1 h2 hR hR1 hR2 ha hb1 hb2 hb3
              refine Hid.mk ?_
              go_wp2_with fail
              go_roundg (n - (k + 1))
              case rel => exact ⟨k + 1, m + 1, insF q f x, Hid.mk (by omega), by go_num, own_mono h3 hB.size, Hid.mk (fun h => by omega), HI, hBB⟩
              case measure => have := HK.out; omega
          · obtain rfl : q = m := by omega
            have HI := Hid.mk (HX.out q hq HL.out (fun h => by omega))
            clear HX HL
            by_cases hm : q = 0
            · have hz := HZ.out hm
              subst hm
              cases hz
              have ha := (Below.refl wr.heap.size wr).alloc (Nat.le_refl _) (.cells #[.int .u64 x] 26)
              clear hpo hO
              go_wp2_with (first | (at_builtin; refine wpList_append_own_none rfl _ _ 29 (by rfl) wr.heap.size 26 _ 1 Try.underlying29 (Option.some_get (by kernel_rfl : (Try.prog.info? 26).isSome = true)).symm _ 0 [] (by rfl) (World.ownsRow_nil _ _ _ _) (by rfl) ?_) | (at_builtin; refine ap_own rfl _ _ 29 26 .u64 8 Try.underlying29 infoU64 (by decide) (by rfl) (n := 0) (m := 1) (f := fun _ => 0) (by rfl) (World.ownsRow_nil _ wr.heap.size _ _) (by rfl) (r := fun _ => x) (fun j hj => by obtain rfl : j = 0 := (by omega); exact cell_of_row _ _ 0 _ _ _ (heap_alloc_new wr _)) (by omega) (by simp) ?_; intro l2 v2 h2 hb2; refine Hid.out ?_))
              refine Hid.mk ?_
              go_wp2_with (at_builtin; refine wpList_append_own_none rfl _ _ 29 (by rfl) wr.heap.size 26 _ 1 Try.underlying29 (Option.some_get (by kernel_rfl : (Try.prog.info? 26).isSome = true)).symm _ (0 + 1) _ (by rfl) h2 (by rfl) ?_)
              rw [nums_congr (cat_ins0 (fun _ => 0) f x)] at h2
              have hBB : Below v0.heap.size v0 v2 := hB.trans ((ha.trans hb2).mono hB.size)
              go_roundg (n - (k + 1))
              case rel => exact ⟨k + 1, 0 + 1, insF 0 f x, Hid.mk (by omega), by go_num, own_mono h2 hB.size, Hid.mk (fun h => by omega), HI, hBB⟩
              case measure => have := HK.out; omega
            · obtain ⟨go', rfl, -⟩ := hpo 0 (by omega)
              obtain ⟨_, _, e0, hgB, hcp, hR⟩ := own_row hO (by omega)
              cases e0
              clear hpo
              go_wp2_with (at_builtin; refine ap_own rfl _ _ 29 26 .u64 8 Try.underlying29 infoU64 (by decide) (by rfl) (n := 0) (m := q) (by rfl) (World.ownsRow_nil wr wr.heap.size _ _) (by rfl) (r := f) (f := fun _ => 0) (fun j hj => by rw [Nat.zero_add]; exact hR.cell j (by omega)) (by omega) (Nat.le_refl _) ?_; intro l1 v1 h1 hb1; refine Hid.out ?_)
              have ha := (Below.refl v1.heap.size v1).alloc (Nat.le_refl _) (.cells #[.int .u64 x] 26)
              replace h1 := own_kept h1 ha
              have hz1 := hb1.size
              have hR1 := (hR.below hb1 hR.lt).below ha (hR.below hb1 hR.lt).lt
              refine Hid.mk ?_
              go_wp2_with (at_builtin; refine ap_own rfl _ _ 29 26 .u64 8 Try.underlying29 infoU64 (by decide) (by rfl) (n := 0 + q) (m := 1) (by rfl) h1 (by rfl) (r := fun _ => x) (fun j hj => by obtain rfl : j = 0 := (by omega); exact cell_of_row _ _ 0 _ _ _ (heap_alloc_new v1 _)) (by omega) (by simp; omega) ?_; intro l2 v2 h2 hb2; refine Hid.out ?_)
              have hz2 := hb2.size
              have hR2 := hR1.below hb2 hR.lt
              refine Hid.mk ?_
              by_cases hcq : cpo = q
              · subst hcq
                go_wp2_with (at_builtin; refine ap_own rfl _ _ 29 26 .u64 8 Try.underlying29 infoU64 (by decide) (by rfl) (n := 0 + cpo + 1) (m := 0) (by rfl) h2 (by rfl) (r := fun j => f (cpo + j)) (fun j hj => absurd hj (Nat.not_lt_zero j)) (by omega) (by have := ha.size; omega) ?_; intro l3 v3 h3 hb3; refine Hid.out ?_)
                rw [cat_ins, show 0 + cpo + 1 + (0) = cpo + 1 by omega] at h3
                have hBB : Below v0.heap.size v0 v3 := hB.trans ((((hb1.trans (ha.mono hz1)).trans hb2).trans hb3).mono hB.size)
                clear h1 h2 hR hR1 hR2 ha hb1 hb2 hb3
                refine Hid.mk ?_
                go_wp2_with fail
                go_roundg (n - (k + 1))
                case rel => exact ⟨k + 1, cpo + 1, insF cpo f x, Hid.mk (by omega), by go_num, own_mono h3 hB.size, Hid.mk (fun h => by omega), HI, hBB⟩
                case measure => have := HK.out; omega
              · have hcn : ¬ cpo - q = 0 := by omega
                have hcm : ¬ cpo ≤ q := by omega
                go_wp2_with (at_builtin; refine ap_own rfl _ _ 29 26 .u64 8 Try.underlying29 infoU64 (by decide) (by rfl) (n := 0 + q + 1) (m := 0) (by rfl) h2 (by rfl) (r := fun j => f (q + j)) (fun j hj => hR2.cell (q + j) (by omega)) (by omega) (by have := ha.size; omega) ?_; intro l3 v3 h3 hb3; refine Hid.out ?_)
                rw [cat_ins, show 0 + q + 1 + (0) = q + 1 by omega] at h3
                have hBB : Below v0.heap.size v0 v3 := hB.trans ((((hb1.trans (ha.mono hz1)).trans hb2).trans hb3).mono hB.size)
                clear h1 h2 hR hR1 hR2 ha hb1 hb2 hb3
                refine Hid.mk ?_
                go_wp2_with fail
                go_roundg (n - (k + 1))
                case rel => exact ⟨k + 1, q + 1, insF q f x, Hid.mk (by omega), by go_num, own_mono h3 hB.size, Hid.mk (fun h => by omega), HI, hBB⟩
                case measure => have := HK.out; omega
    · obtain rfl : k = n := by omega
      go_wp2_with fail
      go_ret
      exact ⟨_, _, _, rfl, hO, HC.out, hB⟩
end Go.Proofs.Ytjnknhgjlllhjaa
/-
  Own text. What the laws of replay want of the program's windows (of numbers of 64 bits), whatever they are made of.
-/
namespace Go.Proofs.Ytjnknhgjlllhjaa
open Go.RowKit Go.Proofs
set_option maxRecDepth 100000
/-- Numbers below last, none twice. -/
def Nums (last : Int) (n : Nat) (s : Nat → Int) : Prop := (∀ i, i < n → 0 ≤ s i ∧ s i < last) ∧ ∀ i j, i < j → j < n → s i ≠ s j
def L64 : Int := 18446744073709551615
/-- Win w b sz n s S: block b is a window of size sz; s 0 .. s (n - 1) came; it lies in the blocks S. -/
structure Code64 (Win : World → Nat → Int → Nat → (Nat → Int) → (Nat → Prop) → Prop) : Prop where
  lt : ∀ {w b sz n s S}, Win w b sz n s S → ∀ k, S k → k < w.heap.size
  kept : ∀ {w w' : World} {b sz n s S}, Win w b sz n s S → w.heap.size ≤ w'.heap.size → (∀ k, S k → w'.heap[k]? = w.heap[k]?) → Win w' b sz n s S
  new : ∀ (x : Int) (w : World), Calls Try.prog 9 #[.int .i64 x] w fun e w' => ∃ b S, e = .returned (.pointer (some ⟨b, 0, none⟩)) ∧ Win w' b (clampF x) 0 (fun _ => 0) S ∧ (∀ k, S k → w.heap.size ≤ k) ∧ Below w.heap.size w w'
  fresh : ∀ {w b sz n s S} (c : Int), Win w b sz n s S → Nums L64 n s → n < 1000 → U64 c → 1 ≤ sz ∧ sz ≤ 8192 → Calls Try.prog 11 #[.pointer (some ⟨b, 0, none⟩), .int .u64 c] w fun e w' => e = .returned (.bool (freshD L64 sz n s c)) ∧ Below w.heap.size w w'
  takeNo : ∀ {w b sz n s S} (c : Int), Win w b sz n s S → Nums L64 n s → n < 1000 → U64 c → 1 ≤ sz ∧ sz ≤ 8192 → freshD L64 sz n s c = false → Calls Try.prog 16 #[.pointer (some ⟨b, 0, none⟩), .int .u64 c] w fun e w' => e = .returned (.bool false) ∧ Below w.heap.size w w'
  takeYes : ∀ {w b sz n s S} (c : Int), Win w b sz n s S → Nums L64 n s → n < 1000 → U64 c → 1 ≤ sz ∧ sz ≤ 8192 → freshD L64 sz n s c = true → Calls Try.prog 16 #[.pointer (some ⟨b, 0, none⟩), .int .u64 c] w fun e w' => e = .returned (.bool true) ∧ ∃ S', Win w' b sz (n + 1) (cat n s (fun _ => c)) S' ∧ Touch S w w' ∧ ∀ k, S' k → S k ∨ w.heap.size ≤ k
  top : ∀ {w b sz n s S}, Win w b sz n s S → Nums L64 n s → n < 1000 → Calls Try.prog 14 #[.pointer (some ⟨b, 0, none⟩)] w fun e w' => e = .returned (.int .u64 (topF s n)) ∧ Below w.heap.size w w'
  size : ∀ {w b sz n s S}, Win w b sz n s S → 1 ≤ sz ∧ sz ≤ 8192 → Calls Try.prog 15 #[.pointer (some ⟨b, 0, none⟩)] w fun e w' => e = .returned (.int .i64 sz) ∧ Below w.heap.size w w'
  came : ∀ {w b sz n s S}, Win w b sz n s S → Nums L64 n s → n < 1000 → 1 ≤ sz ∧ sz ≤ 8192 → Calls Try.prog 20 #[.pointer (some ⟨b, 0, none⟩)] w fun e w' => ∃ vo m f, e = .returned vo ∧ w'.ownsRow w.heap.size 26 1 vo m (nums .u64 m f) ∧ CameI s sz (topF s n) n m f ∧ Below w.heap.size w w'
  copy : ∀ {w b sz n s S}, Win w b sz n s S → 1 ≤ sz ∧ sz ≤ 8192 → Calls Try.prog 13 #[.pointer (some ⟨b, 0, none⟩)] w fun e w' => ∃ b' S', e = .returned (.pointer (some ⟨b', 0, none⟩)) ∧ Win w' b' sz n s S' ∧ (∀ k, S' k → w.heap.size ≤ k) ∧ Below w.heap.size w w'
  clear : ∀ {w b sz n s S}, Win w b sz n s S → Calls Try.prog 17 #[.pointer (some ⟨b, 0, none⟩)] w fun e w' => e = .returned (.tuple #[]) ∧ ∃ S', Win w' b sz 0 (fun _ => 0) S' ∧ Touch S w w' ∧ ∀ k, S' k → S k ∨ w.heap.size ≤ k
theorem Nums.nil (last : Int) (s : Nat → Int) : Nums last 0 s := ⟨fun i h => by omega, fun i j _ h => by omega⟩
theorem fresh_iff {last sz : Int} {n : Nat} {s : Nat → Int} {c : Int} : freshD last sz n s c = true ↔ c ≠ last ∧ (∀ i, i < n → s i ≠ c) ∧ ∀ i, i < n → ¬ (c < s i ∧ sz ≤ s i - c) := by
  unfold freshD memb late
  simp only [Bool.not_eq_true', Bool.or_eq_false_iff, decide_eq_false_iff_not, not_exists, not_and]
  constructor
  · rintro ⟨⟨h1, h2⟩, h3⟩
    exact ⟨h1, h2, h3⟩
  · rintro ⟨h1, h2, h3⟩
    exact ⟨⟨h1, h2⟩, h3⟩
/-- A counter that is fresh joins the others. -/
theorem Nums.take {last sz : Int} {n : Nat} {s : Nat → Int} {c : Int} (h : Nums last n s) (hc : 0 ≤ c) (hl : c ≤ last) (hf : freshD last sz n s c = true) : Nums last (n + 1) (cat n s (fun _ => c)) := by
  obtain ⟨h1, h2, _⟩ := fresh_iff.1 hf
  refine ⟨fun i hi => ?_, fun i j hij hj => ?_⟩
  · unfold cat
    split
    · rename_i hin; exact h.1 i hin
    · show 0 ≤ c ∧ c < last
      exact ⟨hc, by omega⟩
  · unfold cat
    rw [if_pos (by omega)]
    split
    · rename_i hjn; exact h.2 i j hij hjn
    · exact h2 i (by omega)
section
variable {Win : World → Nat → Int → Nat → (Nat → Int) → (Nat → Prop) → Prop} {w w' : World} {b n : Nat} {sz : Int} {s : Nat → Int} {S : Nat → Prop}
theorem Code64.below (C : Code64 Win) (h : Win w b sz n s S) (hb : Below w.heap.size w w') : Win w' b sz n s S := C.kept h hb.size (fun k hk => hb.block k (C.lt h k hk))
end
end Go.Proofs.Ytjnknhgjlllhjaa
/-
  Own text. awake of the laws of replay, from what windows do.
-/
namespace Go.Proofs.Ytjnknhgjlllhjaa
open Go.RowKit Go.Proofs
set_option maxRecDepth 100000
def a1 : Nat → Int := cat 0 (fun _ => 0) (fun _ => 5)
def a2 : Nat → Int := cat 1 a1 (fun _ => 2)
def a3 : Nat → Int := cat 2 a2 (fun _ => 3)
theorem f1 : freshD L64 4 0 (fun _ => 0) 5 = true := by decide
theorem f2 : freshD L64 4 1 a1 5 = false := by decide
theorem f3 : freshD L64 4 1 a1 2 = true := by decide
theorem f4 : freshD L64 4 2 a2 1 = false := by decide
theorem f5 : freshD L64 4 2 a2 3 = true := by decide
theorem t3 : topF a3 3 = 6 := by decide
theorem awake_len {m : Nat} {f : Nat → Int} (h : CameI a3 4 6 3 m f) : m = 3 := by
  refine (rising_same (g := fun i => if i = 0 then 2 else if i = 1 then 3 else 5) (m' := 3) h.2.1 (fun i j h1 h2 => by have : (i = 0 ∧ j = 1) ∨ (i = 0 ∧ j = 2) ∨ (i = 1 ∧ j = 2) := (by omega); rcases this with ⟨rfl, rfl⟩ | ⟨rfl, rfl⟩ | ⟨rfl, rfl⟩ <;> decide) (fun x => (h.2.2 x).trans ⟨?_, ?_⟩)).1
  · rintro ⟨i, hi, rfl, _⟩
    have : i = 0 ∨ i = 1 ∨ i = 2 := by omega
    rcases this with rfl | rfl | rfl
    · exact ⟨2, by decide, by decide⟩
    · exact ⟨0, by decide, by decide⟩
    · exact ⟨1, by decide, by decide⟩
  · rintro ⟨i, hi, rfl⟩
    have : i = 0 ∨ i = 1 ∨ i = 2 := by omega
    rcases this with rfl | rfl | rfl
    · exact ⟨1, by decide, by decide, by decide⟩
    · exact ⟨2, by decide, by decide, by decide⟩
    · exact ⟨0, by decide, by decide, by decide⟩
theorem below_T {B : Nat} {w w1 w2 : World} {S : Nat → Prop} (h : Below B w w1) (hT : Touch S w1 w2) (hS : ∀ k, S k → B ≤ k) (hs : B ≤ w1.heap.size) : Below B w w2 :=
  ⟨hT.os.trans h.os, hT.tape.trans h.tape, hT.output.trans h.output, Nat.le_trans h.size hT.size, fun k hk => (hT.block k (by omega) (fun hk2 => by have := hS k hk2; omega)).trans (h.block k hk)⟩
set_option maxHeartbeats 4000000 in
theorem awake8_run {Win : World → Nat → Int → Nat → (Nat → Int) → (Nat → Prop) → Prop} (C : Code64 Win) (w : World) :
    Calls Try.prog 8 #[] w fun e w' => e = .returned (.bool true) ∧ Below w.heap.size w w' := by
  have hz : (1 : Int) ≤ 4 ∧ (4 : Int) ≤ 8192 := by decide
  have n0 := Nums.nil L64 (fun _ => 0)
  have n1 : Nums L64 1 a1 := n0.take (by decide) (by decide) f1
  have n2 : Nums L64 2 a2 := n1.take (by decide) (by decide) f3
  have n3 : Nums L64 3 a3 := n2.take (by decide) (by decide) f5
  have u5 : U64 5 := by unfold U64; decide
  have u2 : U64 2 := by unfold U64; decide
  have u1 : U64 1 := by unfold U64; decide
  have u3 : U64 3 := by unfold U64; decide
  go_enter Try.func8, Try.ntmps8
  go_wp2_with fail
  refine (C.new 4 _).mono ?_
  rintro e v0 ⟨b, S, rfl, h0, hS, hb⟩
  have hB := hb
  clear hb
  rw [show clampF 4 = 4 by decide] at h0
  go_wp2_with fail
  refine (C.takeYes 5 h0 n0 (by decide) u5 hz f1).mono ?_
  rintro e v1 ⟨rfl, S1, h1, hT, hS1⟩
  replace hS1 : ∀ k, S1 k → w.heap.size ≤ k := fun k hk => (hS1 k hk).elim (hS k) (fun h => Nat.le_trans hB.size h)
  replace hB := below_T hB hT hS hB.size
  change Win v1 b 4 1 a1 S1 at h1
  clear hT hS h0
  go_wp2_with fail
  refine (C.takeNo 5 h1 n1 (by decide) u5 hz f2).mono ?_
  rintro e v2 ⟨rfl, hb⟩
  replace h1 := C.below h1 hb
  replace hB := hB.trans (hb.mono hB.size)
  clear hb
  go_wp2_with fail
  refine (C.takeYes 2 h1 n1 (by decide) u2 hz f3).mono ?_
  rintro e v3 ⟨rfl, S2, h2, hT, hS2⟩
  replace hS2 : ∀ k, S2 k → w.heap.size ≤ k := fun k hk => (hS2 k hk).elim (hS1 k) (fun h => Nat.le_trans hB.size h)
  replace hB := below_T hB hT hS1 hB.size
  change Win v3 b 4 2 a2 S2 at h2
  clear hT hS1 h1
  go_wp2_with fail
  refine (C.takeNo 1 h2 n2 (by decide) u1 hz f4).mono ?_
  rintro e v4 ⟨rfl, hb⟩
  replace h2 := C.below h2 hb
  replace hB := hB.trans (hb.mono hB.size)
  clear hb
  go_wp2_with fail
  refine (C.takeYes 3 h2 n2 (by decide) u3 hz f5).mono ?_
  rintro e v5 ⟨rfl, S3, h3, hT, hS3⟩
  replace hB := below_T hB hT hS2 hB.size
  change Win v5 b 4 3 a3 S3 at h3
  clear hT hS2 h2 hS3
  go_wp2_with fail
  refine (C.top h3 n3 (by decide)).mono ?_
  rintro e v6 ⟨rfl, hb⟩
  replace h3 := C.below h3 hb
  replace hB := hB.trans (hb.mono hB.size)
  clear hb
  rw [t3]
  go_wp2_with fail
  refine (C.came h3 n3 (by decide) hz).mono ?_
  rintro e v7 ⟨vo, m, f, rfl, hO, hC, hb⟩
  replace h3 := C.below h3 hb
  replace hB := hB.trans (hb.mono hB.size)
  clear hb
  rw [t3] at hC
  obtain rfl := awake_len hC
  obtain ⟨po, cpo, rfl, -⟩ := own_view hO
  clear hO hC
  go_wp2_with fail
  refine (C.size h3 hz).mono ?_
  rintro e v8 ⟨rfl, hb⟩
  replace hB := hB.trans (hb.mono hB.size)
  clear hb
  go_wp2_with fail
  go_ret
  exact ⟨rfl, hB⟩
end Go.Proofs.Ytjnknhgjlllhjaa
/-
  Own text. A window of the program and one of the document side by side.
-/
namespace Go.Proofs.Ytjnknhgjlllhjaa
open Go.RowKit Go.Proofs
set_option maxRecDepth 100000
/-- Both windows at v: of what came the same; they lie apart, and above all that was there at the beginning (w0). m: how many the program's has, n: the document's. -/
structure BothP (Win : World → Nat → Int → Nat → (Nat → Int) → (Nat → Prop) → Prop) (w0 v : World) (bw br : Nat) (sz last : Int) (m : Nat) (t : Nat → Int) (n : Nat) (s : Nat → Int) (S : Nat → Prop) (B : Nat) (vr : Value) : Prop where
  win : Win v bw sz m t S
  ref : WinD v B br sz last vr n s
  brB : br < B
  bB : B ≤ v.heap.size
  nbr : ¬ S br
  nvr : ∀ k, vr.ownBlock = some k → ¬ S k
  up : ∀ k, S k → w0.heap.size ≤ k
  br0 : w0.heap.size ≤ br
  below : Below w0.heap.size w0 v
section
variable {Win : World → Nat → Int → Nat → (Nat → Int) → (Nat → Prop) → Prop} {w0 v v' : World} {bw br : Nat} {sz last : Int} {m n : Nat} {t s t' s' : Nat → Int} {S S' : Nat → Prop} {B : Nat} {vr vr' : Value}
theorem own_lt {w : World} {e : TypeId} {x : Value} {q : Nat} {xs : List Value} (h : w.ownsRow B e 1 x q xs) : ∀ k, x.ownBlock = some k → B ≤ k ∧ k < w.heap.size := fun k hk => by
  rcases h.2 with ⟨rfl, _⟩ | ⟨g, cap, cur, rfl, hb, hg, _⟩
  · cases hk
  · simp [Value.ownBlock] at hk
    have := heap_lt hg
    omega
theorem own_block {w w' : World} {e : TypeId} {x : Value} {q : Nat} {xs : List Value} (h : w.ownsRow B e 1 x q xs) (hk : ∀ k, x.ownBlock = some k → w'.heap[k]? = w.heap[k]?) : w'.ownsRow B e 1 x q xs := by
  refine ⟨h.1, ?_⟩
  rcases h.2 with hn | ⟨g, cap, cur, rfl, hb, hg, rest⟩
  · exact .inl hn
  · exact .inr ⟨g, cap, cur, rfl, hb, (hk g rfl).trans hg, rest⟩
theorem BothP.next (C : ∀ {w w' : World} {b sz n s S}, Win w b sz n s S → w.heap.size ≤ w'.heap.size → (∀ k, S k → w'.heap[k]? = w.heap[k]?) → Win w' b sz n s S) (hlt : ∀ k, S k → k < v.heap.size) (h : BothP Win w0 v bw br sz last m t n s S B vr) (hb : Below v.heap.size v v') : BothP Win w0 v' bw br sz last m t n s S B vr :=
  ⟨C h.win hb.size (fun k hk => hb.block k (hlt k hk)), h.ref.kept hb, h.brB, Nat.le_trans h.bB hb.size, h.nbr, h.nvr, h.up, h.br0, h.below.trans (hb.mono h.below.size)⟩
/-- The program's window changed. -/
theorem BothP.first (h : BothP Win w0 v bw br sz last m t n s S B vr) {m' : Nat} (hw : Win v' bw sz m' t' S') (hT : Touch S v v') (hS : ∀ k, S' k → S k ∨ v.heap.size ≤ k) : BothP Win w0 v' bw br sz last m' t' n s S' B vr := by
  have hl := own_lt h.ref.row
  have hr := h.ref.lt
  refine ⟨hw, ⟨(hT.block br hr h.nbr).trans h.ref.blk, own_block h.ref.row (fun k hk => hT.block k (hl k hk).2 (h.nvr k hk))⟩, h.brB, Nat.le_trans h.bB hT.size, fun hk => ?_, fun k hk hk2 => ?_, fun k hk => ?_, h.br0, below_T h.below hT h.up h.below.size⟩
  · rcases hS br hk with h1 | h1
    · exact h.nbr h1
    · omega
  · have h2 := hl k hk
    rcases hS k hk2 with h1 | h1
    · exact h.nvr k hk h1
    · omega
  · have := h.below.size
    rcases hS k hk with h1 | h1
    · exact h.up k h1
    · omega
/-- The document's window changed. -/
theorem BothP.second (C : ∀ {w w' : World} {b sz n s S}, Win w b sz n s S → w.heap.size ≤ w'.heap.size → (∀ k, S k → w'.heap[k]? = w.heap[k]?) → Win w' b sz n s S) (hlt : ∀ k, S k → k < v.heap.size) (h : BothP Win w0 v bw br sz last m t n s S B vr) {n' : Nat} (hw : WinD v' B br sz last vr' n' s') (hT : Touch (TakeT br vr) v v') (hS : ∀ k, vr'.ownBlock = some k → vr.ownBlock = some k ∨ v.heap.size ≤ k) : BothP Win w0 v' bw br sz last m t n' s' S B vr' := by
  have hl := own_lt h.ref.row
  have hup : ∀ k, TakeT br vr k → w0.heap.size ≤ k := fun k hk => by
    have h1 := h.br0
    have h2 := h.brB
    rcases hk with rfl | hk
    · exact h1
    · have := hl k hk; omega
  refine ⟨C h.win hT.size (fun k hk => hT.block k (hlt k hk) (fun hk2 => ?_)), hw, h.brB, Nat.le_trans h.bB hT.size, h.nbr, fun k hk hk2 => ?_, h.up, h.br0, below_T h.below hT hup h.below.size⟩
  · rcases hk2 with rfl | h1
    · exact h.nbr hk
    · exact h.nvr k h1 hk
  · have := hlt k hk2
    rcases hS k hk with h1 | h1
    · exact h.nvr k h1 hk2
    · omega
end
end Go.Proofs.Ytjnknhgjlllhjaa
/-
  Own text. ReplayPlays, from what windows do.
-/
namespace Go.Proofs.Ytjnknhgjlllhjaa
open Go.RowKit Go.Proofs
set_option maxRecDepth 100000
/-- A slice of calls. -/
def OpsAt (w : World) (v : Value) (n : Nat) (kd nn : Nat → Int) : Prop := ∃ a c, v = .slice a n c ∧ ∀ j, j < n → ∃ p, a = some p ∧ w.cell? (p.add (j * 2)) = some (.int .i64 (kd j)) ∧ w.cell? (p.add (j * 2 + 1)) = some (.int .u64 (nn j)) ∧ p.block < w.heap.size
section
variable {Win : World → Nat → Int → Nat → (Nat → Int) → (Nat → Prop) → Prop} {w0 v v' : World} {bw br : Nat} {sz last : Int} {m n : Nat} {t s s' : Nat → Int} {S : Nat → Prop} {B : Nat} {vr vr' : Value}
theorem both_next (C : Code64 Win) (h : BothP Win w0 v bw br sz last m t n s S B vr) (hb : Below v.heap.size v v') : BothP Win w0 v' bw br sz last m t n s S B vr := BothP.next (Win := Win) (fun a b c => C.kept a b c) (C.lt h.win) h hb
theorem both_second (C : Code64 Win) (h : BothP Win w0 v bw br sz last m t n s S B vr) {n' : Nat} (hw : WinD v' B br sz last vr' n' s') (hT : Touch (TakeT br vr) v v') (hS : ∀ k, vr'.ownBlock = some k → vr.ownBlock = some k ∨ v.heap.size ≤ k) : BothP Win w0 v' bw br sz last m t n' s' S B vr' := BothP.second (Win := Win) (fun a b c => C.kept a b c) (C.lt h.win) h hw hT hS
end
theorem nums_u {n : Nat} {s : Nat → Int} (h : Nums L64 n s) {j : Nat} (hj : j < n) : U64 (s j) := by
  have := h.1 j hj
  unfold L64 at this
  unfold U64
  omega
theorem enterTop64 (args : Array Value) (w : World) : (callFunc 14 args).run Try.prog w = .ok (.enter 14 args) w := by kernel_rfl
theorem enterSize64 (args : Array Value) (w : World) : (callFunc 15 args).run Try.prog w = .ok (.enter 15 args) w := by kernel_rfl
theorem enterRTop (args : Array Value) (w : World) : (callFunc 19 args).run Try.prog w = .ok (.enter 19 args) w := by kernel_rfl
theorem exec_neq64 {a : Act} {o : Oper} {w : World} {x y : Operand} (ho : o.op = .binOp .neq 26 x y 26) {m : Int} (hx : a.eval x = .int .u64 m) (hy : a.eval y = .int .u64 m) : (execOp a.eval o).run Try.prog w = .ok (.value (.bool false)) w := exec_bin2 ho hx hy rfl (by simp [go_sem])
theorem exec_f0 {a : Act} {o : Oper} {w : World} {x : Operand} (ho : o.op = .fieldAddr 31 x 0) {b : Nat} (hx : a.eval x = .pointer (some ⟨b, 0, none⟩)) : (execOp a.eval o).run Try.prog w = .ok (.value (.pointer (some ⟨b, 0, none⟩))) w := by
  have h : (Instr.fieldAt 31 (.pointer (some ⟨b, 0, none⟩)) 0).run Try.prog w = .ok (.pointer (some ⟨b, 0, none⟩)) w := by simp [go_sem]
  unfold execOp
  simp only [ho, hx, Sem.run_bind, h, Result.andThen_ok, Sem.run_pure]
theorem nums_l {n : Nat} {s : Nat → Int} (h : Nums L64 n s) : ∀ i, i < n → 0 ≤ s i ∧ s i < 18446744073709551615 := h.1
theorem take_any {Win : World → Nat → Int → Nat → (Nat → Int) → (Nat → Prop) → Prop} (C : Code64 Win) {w : World} {b n : Nat} {sz : Int} {s : Nat → Int} {S : Nat → Prop} (c : Int) (h : Win w b sz n s S) (hN : Nums L64 n s) (hn : n < 1000) (hc : U64 c) (hz : 1 ≤ sz ∧ sz ≤ 8192) :
    Calls Try.prog 16 #[.pointer (some ⟨b, 0, none⟩), .int .u64 c] w fun e w' => ∃ r n' s' S', e = .returned (.bool r) ∧ Win w' b sz n' s' S' ∧ Nums L64 n' s' ∧ n' ≤ n + 1 ∧ Touch S w w' ∧ ∀ k, S' k → S k ∨ w.heap.size ≤ k := by
  cases hf : freshD L64 sz n s c
  · refine (C.takeNo c h hN hn hc hz hf).mono ?_
    rintro e w' ⟨rfl, hb⟩
    exact ⟨_, _, _, _, rfl, C.below h hb, hN, by omega, ⟨hb.os, hb.tape, hb.output, hb.size, fun k hk _ => hb.block k hk⟩, fun k hk => .inl hk⟩
  · refine (C.takeYes c h hN hn hc hz hf).mono ?_
    rintro e w' ⟨rfl, S', h1, h2, h3⟩
    unfold U64 at hc
    exact ⟨_, _, _, _, rfl, h1, hN.take hc.1 (by unfold L64; omega) hf, by omega, h2, h3⟩
theorem wrap_u (x : Int) : U64 (IntKind.u64.wrap x) := by
  unfold U64
  have : IntKind.u64.wrap x = x % 18446744073709551616 := by simp [IntKind.wrap, IntKind.bits, IntKind.signed]
  omega
theorem add_block (p : Addr) (k : Nat) : (p.add k).block = p.block := by
  unfold Addr.add
  split <;> rfl
theorem add_fld (p : Addr) (k : Nat) : p.add (k + 1) = ⟨(p.add k).block, (p.add k).off + 1, none⟩ := by
  unfold Addr.add
  rw [if_neg (by omega)]
  split
  · rename_i h; subst h; rfl
  · rfl
theorem cell_kept {w w' : World} {p : Addr} {j : Nat} {x : Value} (h : w'.heap[p.block]? = w.heap[p.block]?) (hc : w.cell? (p.add j) = some x) : w'.cell? (p.add j) = some x := by
  rw [World.cell?_of_block (a := p.add j) (w := w)]
  · exact hc
  · rw [add_block]; exact h
set_option maxHeartbeats 4000000 in
theorem plays_walk {Win : World → Nat → Int → Nat → (Nat → Int) → (Nat → Prop) → Prop} (C : Code64 Win) (x : Int) (sv : Value) (ns : Nat) (kd nn : Nat → Int) (w : World) (hO : OpsAt w sv ns kd nn) (hu : ∀ i, i < ns → U64 (nn i)) (hns : ns < 9223372036854775808) :
    Calls Try.prog 3 #[.int .i64 x, sv] w fun e w' => e = .returned (.bool true) ∧ Below w.heap.size w w' := by
  obtain ⟨pa, pc, rfl, hp⟩ := hO
  have HP := Hid.mk hp
  have HU := Hid.mk hu
  have hsz := clampF_range x
  clear hp hu
  go_enter Try.func3, Try.ntmps3
  go_wp2_with fail
  refine (awake8_run C _).mono ?_
  rintro e v0 ⟨rfl, hB⟩
  go_wp2_with fail
  refine (C.new x _).mono ?_
  rintro e v1 ⟨bw, S, rfl, hw, hS, hb⟩
  replace hS : ∀ k, S k → w.heap.size ≤ k := fun k hk => Nat.le_trans hB.size (hS k hk)
  replace hB := hB.trans (hb.mono hB.size)
  clear hb
  go_wp2_with fail
  refine (rClamp_run x _).mono ?_
  rintro e v2 ⟨rfl, rfl⟩
  generalize clampF x = sz at *
  have hbl := heap_alloc_new v2 (.cells #[.int .i64 sz, .int .u64 18446744073709551615, .slice none 0 0] 31)
  have hba := (Below.refl v2.heap.size v2).alloc (Nat.le_refl _) (.cells #[.int .i64 sz, .int .u64 18446744073709551615, .slice none 0 0] 31)
  have hlt := C.lt hw
  have hB0 : BothP Win w (v2.alloc (.cells #[.int .i64 sz, .int .u64 18446744073709551615, .slice none 0 0] 31)) bw v2.heap.size sz L64 0 (fun _ => 0) 0 (fun _ => 0) S (v2.heap.size + 1) (.slice none 0 0) :=
    ⟨C.below hw hba, ⟨hbl, World.ownsRow_nil _ _ _ _⟩, by omega, by simp, (fun h => by have := hlt _ h; omega), (fun k hk => by cases hk), hS, hB.size, hB.trans (hba.mono hB.size)⟩
  have HB0 := Hid.mk hB0
  clear hB0 hbl hba hlt hw hS hB
  go_wp2_with fail
  generalize v2.alloc (.cells #[.int .i64 sz, .int .u64 18446744073709551615, .slice none 0 0] 31) = v3 at *
  generalize v2.heap.size = br at *
  go_loopg [8] (min ns 400) (fun gm iv v => ∃ (i m : Nat) (s : Nat → Int) (S : Nat → Prop) (B : Nat) (vr : Value), Hid (gm + i = min ns 400) ∧ iv = .int .i64 (i : Int) ∧ Hid (BothP Win w v bw br sz L64 m s m s S B vr) ∧ Hid (Nums L64 m s ∧ m ≤ i))
  case atStart => exact ⟨0, 0, fun _ => 0, S, _, _, Hid.mk (by omega), rfl, HB0, Hid.mk ⟨Nums.nil _ _, Nat.le_refl _⟩⟩
  case round =>
    clear HB0
    obtain ⟨i, m, s, S, B, vr, HK, rfl, HB, HN⟩ := hrel
    have hi : i ≤ min ns 400 := by have := HK.out; omega
    by_cases hlt : i < min ns 400
    · have hi1 : i < ns := by omega
      have hi2 : i < 400 := by omega
      obtain ⟨p, rfl, k1, k2, k3⟩ := HP.out i hi1
      have hbk := HB.out.below.block p.block k3
      replace k1 := cell_kept hbk k1
      replace k2 := cell_kept hbk k2
      rw [add_fld] at k2
      have hu := HU.out i hi1
      generalize nn i = c at *
      generalize kd i = K at *
      clear hbk k3
      go_wp2_with fail
      generalize K.tmod 8 = kk at *
      have hm := HN.out.2
      refine (C.fresh c HB.out.win HN.out.1 (by omega) hu hsz).mono ?_
      rintro e v4 ⟨rfl, hb⟩
      replace HB := Hid.mk (both_next C HB.out hb)
      clear hb
      go_wp2_with fail
      refine (rFresh_run c (by omega) ⟨by omega, hsz.2⟩ (fun j hj => nums_u HN.out.1 hj) hu HB.out.ref).mono ?_
      rintro e v5 ⟨rfl, hb⟩
      replace HB := Hid.mk (both_next C HB.out hb)
      clear hb
      generalize hF : freshD L64 sz m s c = F at *
      have HF := Hid.mk hF
      clear hF
      have hFF : (F != F) = false := by cases F <;> rfl
      by_cases h6 : kk = 6
      · go_wp2_with fail
        refine (C.copy HB.out.win hsz).mono ?_
        rintro e v6 ⟨b2, S2, rfl, h2, hS2, hb⟩
        go_wp2_with fail
        refine (C.top h2 HN.out.1 (by omega)).mono ?_
        rintro e v7 ⟨rfl, hb7⟩
        replace h2 := C.below h2 hb7
        replace hb := hb.trans (hb7.mono hb.size)
        clear hb7
        go_wp2_with fail
        refine (C.top (C.below HB.out.win hb) HN.out.1 (by omega)).mono ?_
        rintro e v8 ⟨rfl, hb7⟩
        replace h2 := C.below h2 hb7
        replace hb := hb.trans (hb7.mono hb.size)
        clear hb7
        go_wp2_with fail
        refine (C.size h2 hsz).mono ?_
        rintro e v9 ⟨rfl, hb7⟩
        replace h2 := C.below h2 hb7
        replace hb := hb.trans (hb7.mono hb.size)
        clear hb7
        go_wp2_with fail
        refine (C.size (C.below HB.out.win hb) hsz).mono ?_
        rintro e v10 ⟨rfl, hb7⟩
        replace h2 := C.below h2 hb7
        replace hb := hb.trans (hb7.mono hb.size)
        clear hb7
        go_wp2_with fail
        refine (take_any C c h2 HN.out.1 (by omega) hu hsz).mono ?_
        rintro e v11 ⟨r1, n1, s1, S3, rfl, h3, hN1, hn1, hT, hS3⟩
        replace hS3 : ∀ k, S3 k → v5.heap.size ≤ k := fun k hk => (hS3 k hk).elim (hS2 k) (fun h => Nat.le_trans hb.size h)
        replace hb := below_T hb hT hS2 hb.size
        clear hT hS2 h2
        go_wp2_with fail
        refine (take_any C (IntKind.u64.wrap (c + 100)) h3 hN1 (by omega) (wrap_u _) hsz).mono ?_
        rintro e v12 ⟨r2, n2, s2, S4, rfl, h4, hN2, hn2, hT, hS4⟩
        replace hb := below_T hb hT hS3 hb.size
        clear hT hS3 h3 hS4 h4 hN1 hN2 hn1 hn2
        replace HB := Hid.mk (both_next C HB.out hb)
        clear hb
        go_wp2_with fail
        refine wp_region3 (Below v12.heap.size v12) v12.heap.size
            ([] : List (Nat × Cont))
            [kv (.pointer (some ⟨bw, 0, none⟩)), kv (.int .u64 (topF s m)), kv (.pointer (some ⟨br, 0, none⟩)), kv (.int .u64 (topF s m)), kv (.bool false), kv (.bool false), kv (.pointer (some ⟨bw, 0, none⟩)), kv (.int .i64 sz), kv (.pointer (some ⟨br, 0, none⟩)), kv (.pointer (some ⟨br, 0, none⟩)), kv (.pointer (some ⟨br, 0, none⟩)), kv (.int .i64 sz), kv (.bool false), kv (.bool false)]
            [.none, .none, .none, .none, .none, .none, .none, .none, .none, .none, .none, .none, .none, .none]
            [some 104, some 105, some 106, some 107, some 108, some 109, some 110, some 111, some 112, some 113, some 114, some 115, some 116, some 117]
            [(6, .pointer (some ⟨bw, 0, none⟩)), (7, .pointer (some ⟨br, 0, none⟩))]
            [[], [.slot 0], [], [.slot 2], [.slot 1, .slot 3], [.slot 4], [.slot 5], [.slot 5, .slot 6], [.slot 5], [.slot 5, .slot 8], [.slot 5, .slot 9], [.slot 5, .slot 10], [.slot 5, .slot 7, .slot 11], [.slot 5, .slot 12]]
            [.slot 13] [104, 105, 106, 107, 108, 109, 110, 111, 112, 113, 114, 115, 116, 117]
            rfl (by kernel_rfl) ⟨rfl, rfl, trivial⟩ (Below.refl _ v12).drew (Nat.le_refl _) trivial trivial (below_G (Nat.le_refl _) trivial)
            ⟨
              -- 0
              (fun Q aq ww own hS hBg fr kn => .inl ⟨trivial, fun K hK => wp_value (exec_move rfl fr.1) (hK _ _ ⟨Touch.refl _ _, rfl⟩)⟩),
              -- 1
              (fun Q aq ww own hS hBg fr kn => .inl ⟨trivial, fun K hK => stepc enterTop64 rfl (args1 kn.1) (C.top (C.below HB.out.win hS) HN.out.1 (by omega)) (fun w' hb => hK _ _ ⟨touch_below hb, rfl⟩)⟩),
              -- 2
              (fun Q aq ww own hS hBg fr kn => .inl ⟨trivial, fun K hK => wp_value (exec_move rfl fr.2.1) (hK _ _ ⟨Touch.refl _ _, rfl⟩)⟩),
              -- 3
              (fun Q aq ww own hS hBg fr kn => .inl ⟨trivial, fun K hK => stepc enterRTop rfl (args1 kn.1) ((rTop_run (by omega) (nums_l HN.out.1) (HB.out.ref.kept hS)).mono (fun e w' h => ⟨h.1, by rw [h.2]; exact Below.refl _ _⟩)) (fun w' hb => hK _ _ ⟨touch_below hb, rfl⟩)⟩),
              -- 4
              (fun Q aq ww own hS hBg fr kn => .inl ⟨trivial, fun K hK => wp_value (exec_neq64 rfl kn.1 kn.2.1) (hK _ _ ⟨Touch.refl _ _, rfl⟩)⟩),
              -- 5
              (fun Q aq ww own hS hBg fr kn => .inl ⟨trivial, fun K hK => wp_value (exec_move rfl kn.1) (hK _ _ ⟨Touch.refl _ _, rfl⟩)⟩),
              -- 6
              (fun Q aq ww own hS hBg fr kn => .inl ⟨kn.1, fun K hK => wp_value (exec_move rfl fr.1) (hK _ _ ⟨Touch.refl _ _, rfl⟩)⟩),
              -- 7
              (fun Q aq ww own hS hBg fr kn => .inl ⟨kn.1, fun K hK => stepc enterSize64 rfl (args1 kn.2.1) (C.size (C.below HB.out.win hS) hsz) (fun w' hb => hK _ _ ⟨touch_below hb, rfl⟩)⟩),
              -- 8
              (fun Q aq ww own hS hBg fr kn => .inl ⟨kn.1, fun K hK => wp_value (exec_move rfl fr.2.1) (hK _ _ ⟨Touch.refl _ _, rfl⟩)⟩),
              -- 9
              (fun Q aq ww own hS hBg fr kn => .inl ⟨kn.1, fun K hK => wp_value (exec_nilc rfl kn.2.1) (hK _ _ ⟨Touch.refl _ _, rfl⟩)⟩),
              -- 10
              (fun Q aq ww own hS hBg fr kn => .inl ⟨kn.1, fun K hK => wp_value (exec_f0 rfl kn.2.1) (hK _ _ ⟨Touch.refl _ _, rfl⟩)⟩),
              -- 11
              (fun Q aq ww own hS hBg fr kn => .inl ⟨kn.1, fun K hK => wp_value (exec_ld rfl kn.2.1 (load_int (HB.out.ref.kept hS).c0)) (hK _ _ ⟨Touch.refl _ _, rfl⟩)⟩),
              -- 12
              (fun Q aq ww own hS hBg fr kn => .inl ⟨kn.1, fun K hK => wp_value (exec_neqI rfl kn.2.1 kn.2.2.1 rfl) (hK _ _ ⟨Touch.refl _ _, rfl⟩)⟩),
              -- 13
              (fun Q aq ww own hS hBg fr kn => .inl ⟨trivial, fun K hK => wp_value (exec_pickF rfl kn.1 kn.2.1) (hK _ _ ⟨Touch.refl _ _, rfl⟩)⟩),
              trivial⟩ ?_
        intro vs own v9 hb hsz9 kn inj
        have e117 : vs 117 = _ := kn.1
        clear kn inj hsz9
        replace HB := Hid.mk (both_next C HB.out hb)
        clear hb
        simp only [putAll, Act.put, List.setIfInBounds_toArray, List.set_cons_zero, List.set_cons_succ, e117]
        clear e117
        go_wp2_with fail
        go_roundg (min ns 400 - (i + 1))
        case rel => exact ⟨i + 1, m, s, S, B, vr, Hid.mk (by omega), by go_num, HB, Hid.mk ⟨HN.out.1, by omega⟩⟩
        case measure => have := HK.out; omega
      · by_cases h7 : kk = 7
        · by_cases h4 : c.tmod 4 = 0
          · go_wp2_with fail
            refine (C.clear HB.out.win).mono ?_
            rintro e v6 ⟨rfl, S2, h2, hT, hS2⟩
            replace HB := Hid.mk (HB.out.first h2 hT hS2)
            clear h2 hT hS2
            have c2 := HB.out.ref.c2
            have f2 := frozen_of_row v6 br 2 _ _ HB.out.ref.blk
            have HB2 := Hid.mk (both_second C HB.out (winD_set (s := fun _ => 0) HB.out.ref.blk (World.ownsRow_nil v6 _ _ _) HB.out.brB) ⟨only_set.os, only_set.tape, only_set.output, by rw [only_set.size]; exact Nat.le_refl _, fun k _ hn => only_set.block k (fun e => hn (.inl e))⟩ (fun k hk => by cases hk))
            replace HN : Hid (Nums L64 0 (fun _ => 0) ∧ 0 ≤ i) := Hid.mk ⟨Nums.nil _ _, by omega⟩
            clear HB
            have HB := HB2
            clear HB2
            go_wp2_with fail
            generalize v6.setCell ⟨br, 2, none⟩ (.slice none 0 0) = v7 at *
            refine wp_region3 (Below v7.heap.size v7) v7.heap.size
                ([] : List (Nat × Cont))
                [kv (.pointer (some ⟨bw, 0, none⟩)), kv (.int .u64 (topF (fun _ => 0) 0)), kv (.pointer (some ⟨br, 0, none⟩)), kv (.int .u64 (topF (fun _ => 0) 0)), kv (.bool false), kv (.bool false), kv (.pointer (some ⟨bw, 0, none⟩)), kv (.int .i64 sz), kv (.pointer (some ⟨br, 0, none⟩)), kv (.pointer (some ⟨br, 0, none⟩)), kv (.pointer (some ⟨br, 0, none⟩)), kv (.int .i64 sz), kv (.bool false), kv (.bool false)]
                [.none, .none, .none, .none, .none, .none, .none, .none, .none, .none, .none, .none, .none, .none]
                [some 104, some 105, some 106, some 107, some 108, some 109, some 110, some 111, some 112, some 113, some 114, some 115, some 116, some 117]
                [(6, .pointer (some ⟨bw, 0, none⟩)), (7, .pointer (some ⟨br, 0, none⟩))]
                [[], [.slot 0], [], [.slot 2], [.slot 1, .slot 3], [.slot 4], [.slot 5], [.slot 5, .slot 6], [.slot 5], [.slot 5, .slot 8], [.slot 5, .slot 9], [.slot 5, .slot 10], [.slot 5, .slot 7, .slot 11], [.slot 5, .slot 12]]
                [.slot 13] [104, 105, 106, 107, 108, 109, 110, 111, 112, 113, 114, 115, 116, 117]
                rfl (by kernel_rfl) ⟨rfl, rfl, trivial⟩ (Below.refl _ v7).drew (Nat.le_refl _) trivial trivial (below_G (Nat.le_refl _) trivial)
                ⟨
                  -- 0
                  (fun Q aq ww own hS hBg fr kn => .inl ⟨trivial, fun K hK => wp_value (exec_move rfl fr.1) (hK _ _ ⟨Touch.refl _ _, rfl⟩)⟩),
                  -- 1
                  (fun Q aq ww own hS hBg fr kn => .inl ⟨trivial, fun K hK => stepc enterTop64 rfl (args1 kn.1) (C.top (C.below HB.out.win hS) HN.out.1 (by omega)) (fun w' hb => hK _ _ ⟨touch_below hb, rfl⟩)⟩),
                  -- 2
                  (fun Q aq ww own hS hBg fr kn => .inl ⟨trivial, fun K hK => wp_value (exec_move rfl fr.2.1) (hK _ _ ⟨Touch.refl _ _, rfl⟩)⟩),
                  -- 3
                  (fun Q aq ww own hS hBg fr kn => .inl ⟨trivial, fun K hK => stepc enterRTop rfl (args1 kn.1) ((rTop_run (by omega) (nums_l HN.out.1) (HB.out.ref.kept hS)).mono (fun e w' h => ⟨h.1, by rw [h.2]; exact Below.refl _ _⟩)) (fun w' hb => hK _ _ ⟨touch_below hb, rfl⟩)⟩),
                  -- 4
                  (fun Q aq ww own hS hBg fr kn => .inl ⟨trivial, fun K hK => wp_value (exec_neq64 rfl kn.1 kn.2.1) (hK _ _ ⟨Touch.refl _ _, rfl⟩)⟩),
                  -- 5
                  (fun Q aq ww own hS hBg fr kn => .inl ⟨trivial, fun K hK => wp_value (exec_move rfl kn.1) (hK _ _ ⟨Touch.refl _ _, rfl⟩)⟩),
                  -- 6
                  (fun Q aq ww own hS hBg fr kn => .inl ⟨kn.1, fun K hK => wp_value (exec_move rfl fr.1) (hK _ _ ⟨Touch.refl _ _, rfl⟩)⟩),
                  -- 7
                  (fun Q aq ww own hS hBg fr kn => .inl ⟨kn.1, fun K hK => stepc enterSize64 rfl (args1 kn.2.1) (C.size (C.below HB.out.win hS) hsz) (fun w' hb => hK _ _ ⟨touch_below hb, rfl⟩)⟩),
                  -- 8
                  (fun Q aq ww own hS hBg fr kn => .inl ⟨kn.1, fun K hK => wp_value (exec_move rfl fr.2.1) (hK _ _ ⟨Touch.refl _ _, rfl⟩)⟩),
                  -- 9
                  (fun Q aq ww own hS hBg fr kn => .inl ⟨kn.1, fun K hK => wp_value (exec_nilc rfl kn.2.1) (hK _ _ ⟨Touch.refl _ _, rfl⟩)⟩),
                  -- 10
                  (fun Q aq ww own hS hBg fr kn => .inl ⟨kn.1, fun K hK => wp_value (exec_f0 rfl kn.2.1) (hK _ _ ⟨Touch.refl _ _, rfl⟩)⟩),
                  -- 11
                  (fun Q aq ww own hS hBg fr kn => .inl ⟨kn.1, fun K hK => wp_value (exec_ld rfl kn.2.1 (load_int (HB.out.ref.kept hS).c0)) (hK _ _ ⟨Touch.refl _ _, rfl⟩)⟩),
                  -- 12
                  (fun Q aq ww own hS hBg fr kn => .inl ⟨kn.1, fun K hK => wp_value (exec_neqI rfl kn.2.1 kn.2.2.1 rfl) (hK _ _ ⟨Touch.refl _ _, rfl⟩)⟩),
                  -- 13
                  (fun Q aq ww own hS hBg fr kn => .inl ⟨trivial, fun K hK => wp_value (exec_pickF rfl kn.1 kn.2.1) (hK _ _ ⟨Touch.refl _ _, rfl⟩)⟩),
                  trivial⟩ ?_
            intro vs own v9 hb hsz9 kn inj
            have e117 : vs 117 = _ := kn.1
            clear kn inj hsz9
            replace HB := Hid.mk (both_next C HB.out hb)
            clear hb
            simp only [putAll, Act.put, List.setIfInBounds_toArray, List.set_cons_zero, List.set_cons_succ, e117]
            clear e117
            go_wp2_with fail
            go_roundg (min ns 400 - (i + 1))
            case rel => exact ⟨i + 1, 0, (fun _ => 0), S2, B, (.slice none 0 0), Hid.mk (by omega), by go_num, HB, Hid.mk ⟨HN.out.1, by omega⟩⟩
            case measure => have := HK.out; omega
          · have h4n : ¬ c.tmod 4 = 0 := h4
            cases F
            · go_wp2_with fail
              refine (C.takeNo c HB.out.win HN.out.1 (by omega) hu hsz HF.out).mono ?_
              rintro e v6 ⟨rfl, hb⟩
              replace HB := Hid.mk (both_next C HB.out hb)
              clear hb
              go_wp2_with fail
              refine (rTake_no c (by omega) ⟨by omega, hsz.2⟩ (fun j hj => nums_u HN.out.1 hj) hu HB.out.ref HF.out).mono ?_
              rintro e v7 ⟨rfl, hb⟩
              replace HB := Hid.mk (both_next C HB.out hb)
              clear hb
              go_wp2_with fail
              refine wp_region3 (Below v7.heap.size v7) v7.heap.size
                  ([] : List (Nat × Cont))
                  [kv (.pointer (some ⟨bw, 0, none⟩)), kv (.int .u64 (topF s m)), kv (.pointer (some ⟨br, 0, none⟩)), kv (.int .u64 (topF s m)), kv (.bool false), kv (.bool false), kv (.pointer (some ⟨bw, 0, none⟩)), kv (.int .i64 sz), kv (.pointer (some ⟨br, 0, none⟩)), kv (.pointer (some ⟨br, 0, none⟩)), kv (.pointer (some ⟨br, 0, none⟩)), kv (.int .i64 sz), kv (.bool false), kv (.bool false)]
                  [.none, .none, .none, .none, .none, .none, .none, .none, .none, .none, .none, .none, .none, .none]
                  [some 104, some 105, some 106, some 107, some 108, some 109, some 110, some 111, some 112, some 113, some 114, some 115, some 116, some 117]
                  [(6, .pointer (some ⟨bw, 0, none⟩)), (7, .pointer (some ⟨br, 0, none⟩))]
                  [[], [.slot 0], [], [.slot 2], [.slot 1, .slot 3], [.slot 4], [.slot 5], [.slot 5, .slot 6], [.slot 5], [.slot 5, .slot 8], [.slot 5, .slot 9], [.slot 5, .slot 10], [.slot 5, .slot 7, .slot 11], [.slot 5, .slot 12]]
                  [.slot 13] [104, 105, 106, 107, 108, 109, 110, 111, 112, 113, 114, 115, 116, 117]
                  rfl (by kernel_rfl) ⟨rfl, rfl, trivial⟩ (Below.refl _ v7).drew (Nat.le_refl _) trivial trivial (below_G (Nat.le_refl _) trivial)
                  ⟨
                    -- 0
                    (fun Q aq ww own hS hBg fr kn => .inl ⟨trivial, fun K hK => wp_value (exec_move rfl fr.1) (hK _ _ ⟨Touch.refl _ _, rfl⟩)⟩),
                    -- 1
                    (fun Q aq ww own hS hBg fr kn => .inl ⟨trivial, fun K hK => stepc enterTop64 rfl (args1 kn.1) (C.top (C.below HB.out.win hS) HN.out.1 (by omega)) (fun w' hb => hK _ _ ⟨touch_below hb, rfl⟩)⟩),
                    -- 2
                    (fun Q aq ww own hS hBg fr kn => .inl ⟨trivial, fun K hK => wp_value (exec_move rfl fr.2.1) (hK _ _ ⟨Touch.refl _ _, rfl⟩)⟩),
                    -- 3
                    (fun Q aq ww own hS hBg fr kn => .inl ⟨trivial, fun K hK => stepc enterRTop rfl (args1 kn.1) ((rTop_run (by omega) (nums_l HN.out.1) (HB.out.ref.kept hS)).mono (fun e w' h => ⟨h.1, by rw [h.2]; exact Below.refl _ _⟩)) (fun w' hb => hK _ _ ⟨touch_below hb, rfl⟩)⟩),
                    -- 4
                    (fun Q aq ww own hS hBg fr kn => .inl ⟨trivial, fun K hK => wp_value (exec_neq64 rfl kn.1 kn.2.1) (hK _ _ ⟨Touch.refl _ _, rfl⟩)⟩),
                    -- 5
                    (fun Q aq ww own hS hBg fr kn => .inl ⟨trivial, fun K hK => wp_value (exec_move rfl kn.1) (hK _ _ ⟨Touch.refl _ _, rfl⟩)⟩),
                    -- 6
                    (fun Q aq ww own hS hBg fr kn => .inl ⟨kn.1, fun K hK => wp_value (exec_move rfl fr.1) (hK _ _ ⟨Touch.refl _ _, rfl⟩)⟩),
                    -- 7
                    (fun Q aq ww own hS hBg fr kn => .inl ⟨kn.1, fun K hK => stepc enterSize64 rfl (args1 kn.2.1) (C.size (C.below HB.out.win hS) hsz) (fun w' hb => hK _ _ ⟨touch_below hb, rfl⟩)⟩),
                    -- 8
                    (fun Q aq ww own hS hBg fr kn => .inl ⟨kn.1, fun K hK => wp_value (exec_move rfl fr.2.1) (hK _ _ ⟨Touch.refl _ _, rfl⟩)⟩),
                    -- 9
                    (fun Q aq ww own hS hBg fr kn => .inl ⟨kn.1, fun K hK => wp_value (exec_nilc rfl kn.2.1) (hK _ _ ⟨Touch.refl _ _, rfl⟩)⟩),
                    -- 10
                    (fun Q aq ww own hS hBg fr kn => .inl ⟨kn.1, fun K hK => wp_value (exec_f0 rfl kn.2.1) (hK _ _ ⟨Touch.refl _ _, rfl⟩)⟩),
                    -- 11
                    (fun Q aq ww own hS hBg fr kn => .inl ⟨kn.1, fun K hK => wp_value (exec_ld rfl kn.2.1 (load_int (HB.out.ref.kept hS).c0)) (hK _ _ ⟨Touch.refl _ _, rfl⟩)⟩),
                    -- 12
                    (fun Q aq ww own hS hBg fr kn => .inl ⟨kn.1, fun K hK => wp_value (exec_neqI rfl kn.2.1 kn.2.2.1 rfl) (hK _ _ ⟨Touch.refl _ _, rfl⟩)⟩),
                    -- 13
                    (fun Q aq ww own hS hBg fr kn => .inl ⟨trivial, fun K hK => wp_value (exec_pickF rfl kn.1 kn.2.1) (hK _ _ ⟨Touch.refl _ _, rfl⟩)⟩),
                    trivial⟩ ?_
              intro vs own v9 hb hsz9 kn inj
              have e117 : vs 117 = _ := kn.1
              clear kn inj hsz9
              replace HB := Hid.mk (both_next C HB.out hb)
              clear hb
              simp only [putAll, Act.put, List.setIfInBounds_toArray, List.set_cons_zero, List.set_cons_succ, e117]
              clear e117
              go_wp2_with fail
              go_roundg (min ns 400 - (i + 1))
              case rel => exact ⟨i + 1, m, s, S, B, vr, Hid.mk (by omega), by go_num, HB, Hid.mk ⟨HN.out.1, by omega⟩⟩
              case measure => have := HK.out; omega
            · go_wp2_with fail
              refine (C.takeYes c HB.out.win HN.out.1 (by omega) hu hsz HF.out).mono ?_
              rintro e v6 ⟨rfl, S2, h2, hT, hS2⟩
              replace HB := Hid.mk (HB.out.first h2 hT hS2)
              clear h2 hT hS2
              go_wp2_with fail
              refine (rTake_yes c (by omega) ⟨by omega, hsz.2⟩ (fun j hj => nums_u HN.out.1 hj) hu HB.out.ref HB.out.brB HB.out.bB HF.out).mono ?_
              rintro e v7 ⟨rfl, vr2, h2, hT, hS2⟩
              replace HB := Hid.mk (both_second C HB.out h2 hT hS2)
              clear h2 hT hS2
              replace HN : Hid (Nums L64 (m + 1) (cat m s (fun _ => c)) ∧ m + 1 ≤ i + 1) := Hid.mk ⟨HN.out.1.take (by unfold U64 at hu; omega) (by unfold U64 at hu; unfold L64; omega) HF.out, by omega⟩
              go_wp2_with fail
              refine wp_region3 (Below v7.heap.size v7) v7.heap.size
                  ([] : List (Nat × Cont))
                  [kv (.pointer (some ⟨bw, 0, none⟩)), kv (.int .u64 (topF (cat m s (fun _ => c)) (m + 1))), kv (.pointer (some ⟨br, 0, none⟩)), kv (.int .u64 (topF (cat m s (fun _ => c)) (m + 1))), kv (.bool false), kv (.bool false), kv (.pointer (some ⟨bw, 0, none⟩)), kv (.int .i64 sz), kv (.pointer (some ⟨br, 0, none⟩)), kv (.pointer (some ⟨br, 0, none⟩)), kv (.pointer (some ⟨br, 0, none⟩)), kv (.int .i64 sz), kv (.bool false), kv (.bool false)]
                  [.none, .none, .none, .none, .none, .none, .none, .none, .none, .none, .none, .none, .none, .none]
                  [some 104, some 105, some 106, some 107, some 108, some 109, some 110, some 111, some 112, some 113, some 114, some 115, some 116, some 117]
                  [(6, .pointer (some ⟨bw, 0, none⟩)), (7, .pointer (some ⟨br, 0, none⟩))]
                  [[], [.slot 0], [], [.slot 2], [.slot 1, .slot 3], [.slot 4], [.slot 5], [.slot 5, .slot 6], [.slot 5], [.slot 5, .slot 8], [.slot 5, .slot 9], [.slot 5, .slot 10], [.slot 5, .slot 7, .slot 11], [.slot 5, .slot 12]]
                  [.slot 13] [104, 105, 106, 107, 108, 109, 110, 111, 112, 113, 114, 115, 116, 117]
                  rfl (by kernel_rfl) ⟨rfl, rfl, trivial⟩ (Below.refl _ v7).drew (Nat.le_refl _) trivial trivial (below_G (Nat.le_refl _) trivial)
                  ⟨
                    -- 0
                    (fun Q aq ww own hS hBg fr kn => .inl ⟨trivial, fun K hK => wp_value (exec_move rfl fr.1) (hK _ _ ⟨Touch.refl _ _, rfl⟩)⟩),
                    -- 1
                    (fun Q aq ww own hS hBg fr kn => .inl ⟨trivial, fun K hK => stepc enterTop64 rfl (args1 kn.1) (C.top (C.below HB.out.win hS) HN.out.1 (by omega)) (fun w' hb => hK _ _ ⟨touch_below hb, rfl⟩)⟩),
                    -- 2
                    (fun Q aq ww own hS hBg fr kn => .inl ⟨trivial, fun K hK => wp_value (exec_move rfl fr.2.1) (hK _ _ ⟨Touch.refl _ _, rfl⟩)⟩),
                    -- 3
                    (fun Q aq ww own hS hBg fr kn => .inl ⟨trivial, fun K hK => stepc enterRTop rfl (args1 kn.1) ((rTop_run (by omega) (nums_l HN.out.1) (HB.out.ref.kept hS)).mono (fun e w' h => ⟨h.1, by rw [h.2]; exact Below.refl _ _⟩)) (fun w' hb => hK _ _ ⟨touch_below hb, rfl⟩)⟩),
                    -- 4
                    (fun Q aq ww own hS hBg fr kn => .inl ⟨trivial, fun K hK => wp_value (exec_neq64 rfl kn.1 kn.2.1) (hK _ _ ⟨Touch.refl _ _, rfl⟩)⟩),
                    -- 5
                    (fun Q aq ww own hS hBg fr kn => .inl ⟨trivial, fun K hK => wp_value (exec_move rfl kn.1) (hK _ _ ⟨Touch.refl _ _, rfl⟩)⟩),
                    -- 6
                    (fun Q aq ww own hS hBg fr kn => .inl ⟨kn.1, fun K hK => wp_value (exec_move rfl fr.1) (hK _ _ ⟨Touch.refl _ _, rfl⟩)⟩),
                    -- 7
                    (fun Q aq ww own hS hBg fr kn => .inl ⟨kn.1, fun K hK => stepc enterSize64 rfl (args1 kn.2.1) (C.size (C.below HB.out.win hS) hsz) (fun w' hb => hK _ _ ⟨touch_below hb, rfl⟩)⟩),
                    -- 8
                    (fun Q aq ww own hS hBg fr kn => .inl ⟨kn.1, fun K hK => wp_value (exec_move rfl fr.2.1) (hK _ _ ⟨Touch.refl _ _, rfl⟩)⟩),
                    -- 9
                    (fun Q aq ww own hS hBg fr kn => .inl ⟨kn.1, fun K hK => wp_value (exec_nilc rfl kn.2.1) (hK _ _ ⟨Touch.refl _ _, rfl⟩)⟩),
                    -- 10
                    (fun Q aq ww own hS hBg fr kn => .inl ⟨kn.1, fun K hK => wp_value (exec_f0 rfl kn.2.1) (hK _ _ ⟨Touch.refl _ _, rfl⟩)⟩),
                    -- 11
                    (fun Q aq ww own hS hBg fr kn => .inl ⟨kn.1, fun K hK => wp_value (exec_ld rfl kn.2.1 (load_int (HB.out.ref.kept hS).c0)) (hK _ _ ⟨Touch.refl _ _, rfl⟩)⟩),
                    -- 12
                    (fun Q aq ww own hS hBg fr kn => .inl ⟨kn.1, fun K hK => wp_value (exec_neqI rfl kn.2.1 kn.2.2.1 rfl) (hK _ _ ⟨Touch.refl _ _, rfl⟩)⟩),
                    -- 13
                    (fun Q aq ww own hS hBg fr kn => .inl ⟨trivial, fun K hK => wp_value (exec_pickF rfl kn.1 kn.2.1) (hK _ _ ⟨Touch.refl _ _, rfl⟩)⟩),
                    trivial⟩ ?_
              intro vs own v9 hb hsz9 kn inj
              have e117 : vs 117 = _ := kn.1
              clear kn inj hsz9
              replace HB := Hid.mk (both_next C HB.out hb)
              clear hb
              simp only [putAll, Act.put, List.setIfInBounds_toArray, List.set_cons_zero, List.set_cons_succ, e117]
              clear e117
              go_wp2_with fail
              go_roundg (min ns 400 - (i + 1))
              case rel => exact ⟨i + 1, (m + 1), (cat m s (fun _ => c)), S2, B, vr2, Hid.mk (by omega), by go_num, HB, Hid.mk ⟨HN.out.1, by omega⟩⟩
              case measure => have := HK.out; omega
        · have h7' : decide (kk = 7) = false := by simpa using h7
          cases F
          · go_wp2_with fail
            refine (C.takeNo c HB.out.win HN.out.1 (by omega) hu hsz HF.out).mono ?_
            rintro e v6 ⟨rfl, hb⟩
            replace HB := Hid.mk (both_next C HB.out hb)
            clear hb
            go_wp2_with fail
            refine (rTake_no c (by omega) ⟨by omega, hsz.2⟩ (fun j hj => nums_u HN.out.1 hj) hu HB.out.ref HF.out).mono ?_
            rintro e v7 ⟨rfl, hb⟩
            replace HB := Hid.mk (both_next C HB.out hb)
            clear hb
            go_wp2_with fail
            refine wp_region3 (Below v7.heap.size v7) v7.heap.size
                ([] : List (Nat × Cont))
                [kv (.pointer (some ⟨bw, 0, none⟩)), kv (.int .u64 (topF s m)), kv (.pointer (some ⟨br, 0, none⟩)), kv (.int .u64 (topF s m)), kv (.bool false), kv (.bool false), kv (.pointer (some ⟨bw, 0, none⟩)), kv (.int .i64 sz), kv (.pointer (some ⟨br, 0, none⟩)), kv (.pointer (some ⟨br, 0, none⟩)), kv (.pointer (some ⟨br, 0, none⟩)), kv (.int .i64 sz), kv (.bool false), kv (.bool false)]
                [.none, .none, .none, .none, .none, .none, .none, .none, .none, .none, .none, .none, .none, .none]
                [some 104, some 105, some 106, some 107, some 108, some 109, some 110, some 111, some 112, some 113, some 114, some 115, some 116, some 117]
                [(6, .pointer (some ⟨bw, 0, none⟩)), (7, .pointer (some ⟨br, 0, none⟩))]
                [[], [.slot 0], [], [.slot 2], [.slot 1, .slot 3], [.slot 4], [.slot 5], [.slot 5, .slot 6], [.slot 5], [.slot 5, .slot 8], [.slot 5, .slot 9], [.slot 5, .slot 10], [.slot 5, .slot 7, .slot 11], [.slot 5, .slot 12]]
                [.slot 13] [104, 105, 106, 107, 108, 109, 110, 111, 112, 113, 114, 115, 116, 117]
                rfl (by kernel_rfl) ⟨rfl, rfl, trivial⟩ (Below.refl _ v7).drew (Nat.le_refl _) trivial trivial (below_G (Nat.le_refl _) trivial)
                ⟨
                  -- 0
                  (fun Q aq ww own hS hBg fr kn => .inl ⟨trivial, fun K hK => wp_value (exec_move rfl fr.1) (hK _ _ ⟨Touch.refl _ _, rfl⟩)⟩),
                  -- 1
                  (fun Q aq ww own hS hBg fr kn => .inl ⟨trivial, fun K hK => stepc enterTop64 rfl (args1 kn.1) (C.top (C.below HB.out.win hS) HN.out.1 (by omega)) (fun w' hb => hK _ _ ⟨touch_below hb, rfl⟩)⟩),
                  -- 2
                  (fun Q aq ww own hS hBg fr kn => .inl ⟨trivial, fun K hK => wp_value (exec_move rfl fr.2.1) (hK _ _ ⟨Touch.refl _ _, rfl⟩)⟩),
                  -- 3
                  (fun Q aq ww own hS hBg fr kn => .inl ⟨trivial, fun K hK => stepc enterRTop rfl (args1 kn.1) ((rTop_run (by omega) (nums_l HN.out.1) (HB.out.ref.kept hS)).mono (fun e w' h => ⟨h.1, by rw [h.2]; exact Below.refl _ _⟩)) (fun w' hb => hK _ _ ⟨touch_below hb, rfl⟩)⟩),
                  -- 4
                  (fun Q aq ww own hS hBg fr kn => .inl ⟨trivial, fun K hK => wp_value (exec_neq64 rfl kn.1 kn.2.1) (hK _ _ ⟨Touch.refl _ _, rfl⟩)⟩),
                  -- 5
                  (fun Q aq ww own hS hBg fr kn => .inl ⟨trivial, fun K hK => wp_value (exec_move rfl kn.1) (hK _ _ ⟨Touch.refl _ _, rfl⟩)⟩),
                  -- 6
                  (fun Q aq ww own hS hBg fr kn => .inl ⟨kn.1, fun K hK => wp_value (exec_move rfl fr.1) (hK _ _ ⟨Touch.refl _ _, rfl⟩)⟩),
                  -- 7
                  (fun Q aq ww own hS hBg fr kn => .inl ⟨kn.1, fun K hK => stepc enterSize64 rfl (args1 kn.2.1) (C.size (C.below HB.out.win hS) hsz) (fun w' hb => hK _ _ ⟨touch_below hb, rfl⟩)⟩),
                  -- 8
                  (fun Q aq ww own hS hBg fr kn => .inl ⟨kn.1, fun K hK => wp_value (exec_move rfl fr.2.1) (hK _ _ ⟨Touch.refl _ _, rfl⟩)⟩),
                  -- 9
                  (fun Q aq ww own hS hBg fr kn => .inl ⟨kn.1, fun K hK => wp_value (exec_nilc rfl kn.2.1) (hK _ _ ⟨Touch.refl _ _, rfl⟩)⟩),
                  -- 10
                  (fun Q aq ww own hS hBg fr kn => .inl ⟨kn.1, fun K hK => wp_value (exec_f0 rfl kn.2.1) (hK _ _ ⟨Touch.refl _ _, rfl⟩)⟩),
                  -- 11
                  (fun Q aq ww own hS hBg fr kn => .inl ⟨kn.1, fun K hK => wp_value (exec_ld rfl kn.2.1 (load_int (HB.out.ref.kept hS).c0)) (hK _ _ ⟨Touch.refl _ _, rfl⟩)⟩),
                  -- 12
                  (fun Q aq ww own hS hBg fr kn => .inl ⟨kn.1, fun K hK => wp_value (exec_neqI rfl kn.2.1 kn.2.2.1 rfl) (hK _ _ ⟨Touch.refl _ _, rfl⟩)⟩),
                  -- 13
                  (fun Q aq ww own hS hBg fr kn => .inl ⟨trivial, fun K hK => wp_value (exec_pickF rfl kn.1 kn.2.1) (hK _ _ ⟨Touch.refl _ _, rfl⟩)⟩),
                  trivial⟩ ?_
            intro vs own v9 hb hsz9 kn inj
            have e117 : vs 117 = _ := kn.1
            clear kn inj hsz9
            replace HB := Hid.mk (both_next C HB.out hb)
            clear hb
            simp only [putAll, Act.put, List.setIfInBounds_toArray, List.set_cons_zero, List.set_cons_succ, e117]
            clear e117
            go_wp2_with fail
            go_roundg (min ns 400 - (i + 1))
            case rel => exact ⟨i + 1, m, s, S, B, vr, Hid.mk (by omega), by go_num, HB, Hid.mk ⟨HN.out.1, by omega⟩⟩
            case measure => have := HK.out; omega
          · go_wp2_with fail
            refine (C.takeYes c HB.out.win HN.out.1 (by omega) hu hsz HF.out).mono ?_
            rintro e v6 ⟨rfl, S2, h2, hT, hS2⟩
            replace HB := Hid.mk (HB.out.first h2 hT hS2)
            clear h2 hT hS2
            go_wp2_with fail
            refine (rTake_yes c (by omega) ⟨by omega, hsz.2⟩ (fun j hj => nums_u HN.out.1 hj) hu HB.out.ref HB.out.brB HB.out.bB HF.out).mono ?_
            rintro e v7 ⟨rfl, vr2, h2, hT, hS2⟩
            replace HB := Hid.mk (both_second C HB.out h2 hT hS2)
            clear h2 hT hS2
            replace HN : Hid (Nums L64 (m + 1) (cat m s (fun _ => c)) ∧ m + 1 ≤ i + 1) := Hid.mk ⟨HN.out.1.take (by unfold U64 at hu; omega) (by unfold U64 at hu; unfold L64; omega) HF.out, by omega⟩
            go_wp2_with fail
            refine wp_region3 (Below v7.heap.size v7) v7.heap.size
                ([] : List (Nat × Cont))
                [kv (.pointer (some ⟨bw, 0, none⟩)), kv (.int .u64 (topF (cat m s (fun _ => c)) (m + 1))), kv (.pointer (some ⟨br, 0, none⟩)), kv (.int .u64 (topF (cat m s (fun _ => c)) (m + 1))), kv (.bool false), kv (.bool false), kv (.pointer (some ⟨bw, 0, none⟩)), kv (.int .i64 sz), kv (.pointer (some ⟨br, 0, none⟩)), kv (.pointer (some ⟨br, 0, none⟩)), kv (.pointer (some ⟨br, 0, none⟩)), kv (.int .i64 sz), kv (.bool false), kv (.bool false)]
                [.none, .none, .none, .none, .none, .none, .none, .none, .none, .none, .none, .none, .none, .none]
                [some 104, some 105, some 106, some 107, some 108, some 109, some 110, some 111, some 112, some 113, some 114, some 115, some 116, some 117]
                [(6, .pointer (some ⟨bw, 0, none⟩)), (7, .pointer (some ⟨br, 0, none⟩))]
                [[], [.slot 0], [], [.slot 2], [.slot 1, .slot 3], [.slot 4], [.slot 5], [.slot 5, .slot 6], [.slot 5], [.slot 5, .slot 8], [.slot 5, .slot 9], [.slot 5, .slot 10], [.slot 5, .slot 7, .slot 11], [.slot 5, .slot 12]]
                [.slot 13] [104, 105, 106, 107, 108, 109, 110, 111, 112, 113, 114, 115, 116, 117]
                rfl (by kernel_rfl) ⟨rfl, rfl, trivial⟩ (Below.refl _ v7).drew (Nat.le_refl _) trivial trivial (below_G (Nat.le_refl _) trivial)
                ⟨
                  -- 0
                  (fun Q aq ww own hS hBg fr kn => .inl ⟨trivial, fun K hK => wp_value (exec_move rfl fr.1) (hK _ _ ⟨Touch.refl _ _, rfl⟩)⟩),
                  -- 1
                  (fun Q aq ww own hS hBg fr kn => .inl ⟨trivial, fun K hK => stepc enterTop64 rfl (args1 kn.1) (C.top (C.below HB.out.win hS) HN.out.1 (by omega)) (fun w' hb => hK _ _ ⟨touch_below hb, rfl⟩)⟩),
                  -- 2
                  (fun Q aq ww own hS hBg fr kn => .inl ⟨trivial, fun K hK => wp_value (exec_move rfl fr.2.1) (hK _ _ ⟨Touch.refl _ _, rfl⟩)⟩),
                  -- 3
                  (fun Q aq ww own hS hBg fr kn => .inl ⟨trivial, fun K hK => stepc enterRTop rfl (args1 kn.1) ((rTop_run (by omega) (nums_l HN.out.1) (HB.out.ref.kept hS)).mono (fun e w' h => ⟨h.1, by rw [h.2]; exact Below.refl _ _⟩)) (fun w' hb => hK _ _ ⟨touch_below hb, rfl⟩)⟩),
                  -- 4
                  (fun Q aq ww own hS hBg fr kn => .inl ⟨trivial, fun K hK => wp_value (exec_neq64 rfl kn.1 kn.2.1) (hK _ _ ⟨Touch.refl _ _, rfl⟩)⟩),
                  -- 5
                  (fun Q aq ww own hS hBg fr kn => .inl ⟨trivial, fun K hK => wp_value (exec_move rfl kn.1) (hK _ _ ⟨Touch.refl _ _, rfl⟩)⟩),
                  -- 6
                  (fun Q aq ww own hS hBg fr kn => .inl ⟨kn.1, fun K hK => wp_value (exec_move rfl fr.1) (hK _ _ ⟨Touch.refl _ _, rfl⟩)⟩),
                  -- 7
                  (fun Q aq ww own hS hBg fr kn => .inl ⟨kn.1, fun K hK => stepc enterSize64 rfl (args1 kn.2.1) (C.size (C.below HB.out.win hS) hsz) (fun w' hb => hK _ _ ⟨touch_below hb, rfl⟩)⟩),
                  -- 8
                  (fun Q aq ww own hS hBg fr kn => .inl ⟨kn.1, fun K hK => wp_value (exec_move rfl fr.2.1) (hK _ _ ⟨Touch.refl _ _, rfl⟩)⟩),
                  -- 9
                  (fun Q aq ww own hS hBg fr kn => .inl ⟨kn.1, fun K hK => wp_value (exec_nilc rfl kn.2.1) (hK _ _ ⟨Touch.refl _ _, rfl⟩)⟩),
                  -- 10
                  (fun Q aq ww own hS hBg fr kn => .inl ⟨kn.1, fun K hK => wp_value (exec_f0 rfl kn.2.1) (hK _ _ ⟨Touch.refl _ _, rfl⟩)⟩),
                  -- 11
                  (fun Q aq ww own hS hBg fr kn => .inl ⟨kn.1, fun K hK => wp_value (exec_ld rfl kn.2.1 (load_int (HB.out.ref.kept hS).c0)) (hK _ _ ⟨Touch.refl _ _, rfl⟩)⟩),
                  -- 12
                  (fun Q aq ww own hS hBg fr kn => .inl ⟨kn.1, fun K hK => wp_value (exec_neqI rfl kn.2.1 kn.2.2.1 rfl) (hK _ _ ⟨Touch.refl _ _, rfl⟩)⟩),
                  -- 13
                  (fun Q aq ww own hS hBg fr kn => .inl ⟨trivial, fun K hK => wp_value (exec_pickF rfl kn.1 kn.2.1) (hK _ _ ⟨Touch.refl _ _, rfl⟩)⟩),
                  trivial⟩ ?_
            intro vs own v9 hb hsz9 kn inj
            have e117 : vs 117 = _ := kn.1
            clear kn inj hsz9
            replace HB := Hid.mk (both_next C HB.out hb)
            clear hb
            simp only [putAll, Act.put, List.setIfInBounds_toArray, List.set_cons_zero, List.set_cons_succ, e117]
            clear e117
            go_wp2_with fail
            go_roundg (min ns 400 - (i + 1))
            case rel => exact ⟨i + 1, (m + 1), (cat m s (fun _ => c)), S2, B, vr2, Hid.mk (by omega), by go_num, HB, Hid.mk ⟨HN.out.1, by omega⟩⟩
            case measure => have := HK.out; omega
    · have hend : ¬ (i < ns ∧ i < 400) := by omega
      have hm := HN.out.2
      by_cases hi1 : i < ns
      · have hi2 : ¬ i < 400 := by omega
        go_wp2_with fail
        refine (C.came HB.out.win HN.out.1 (by omega) hsz).mono ?_
        rintro e v6 ⟨vo, m1, f1, rfl, hO1, hC1, hb⟩
        replace HB := Hid.mk (both_next C HB.out hb)
        clear hb
        go_wp2_with fail
        refine (rCame_run (by omega) ⟨by omega, hsz.2⟩ (nums_l HN.out.1) HN.out.1.2 HB.out.ref).mono ?_
        rintro e v7 ⟨vo2, m2, f2, rfl, hO2, hC2, hb⟩
        replace hO1 := own_kept hO1 hb
        have hB := (both_next C HB.out hb).below
        clear hb HB
        obtain ⟨rfl, hff⟩ := rising_same hC1.2.1 hC2.2.1 (fun x => (hC1.2.2 x).trans (hC2.2.2 x).symm)
        have hml := hC1.1
        have HF1 := Hid.mk hff
        have HO1 := Hid.mk hO1
        have HO2 := Hid.mk hO2
        obtain ⟨p1, cp1, rfl, -⟩ := own_view hO1
        obtain ⟨p2, cp2, rfl, -⟩ := own_view hO2
        clear hff hO1 hO2 hC1 hC2
        go_wp2_with fail
        generalize gk = g0 at *
        generalize wr = w9 at *
        go_loopg [14] m1 (fun gm iv v => ∃ q : Nat, Hid (gm + q = m1) ∧ iv = .int .i64 (q : Int) ∧ Below v7.heap.size v7 v)
        case atStart => exact ⟨0, Hid.mk rfl, rfl, Below.refl _ _⟩
        case round =>
          obtain ⟨q, HQ, rfl, hbv⟩ := hrel
          have hq : q ≤ m1 := by have := HQ.out; omega
          by_cases hqm : q < m1
          · obtain ⟨pa, ca, e1, h1⟩ := own_view (own_kept HO1.out hbv)
            cases e1
            obtain ⟨pb, cb, e2, h2⟩ := own_view (own_kept HO2.out hbv)
            cases e2
            obtain ⟨g1, rfl, k1⟩ := h1 q hqm
            obtain ⟨g2, rfl, k2⟩ := h2 q hqm
            rw [← HF1.out q hqm] at k2
            clear h1 h2
            generalize f1 q = y at *
            go_wp2_with fail
            go_quiet (fail)
            go_wp2_with fail
            go_roundg (m1 - (q + 1))
            case rel => exact ⟨q + 1, Hid.mk (by omega), by go_num, below_drewN hbv _⟩
            case measure => have := HQ.out; omega
          · go_wp2_with fail
            go_ret
            exact ⟨rfl, hB.trans (hbv.mono hB.size)⟩
      · go_wp2_with fail
        refine (C.came HB.out.win HN.out.1 (by omega) hsz).mono ?_
        rintro e v6 ⟨vo, m1, f1, rfl, hO1, hC1, hb⟩
        replace HB := Hid.mk (both_next C HB.out hb)
        clear hb
        go_wp2_with fail
        refine (rCame_run (by omega) ⟨by omega, hsz.2⟩ (nums_l HN.out.1) HN.out.1.2 HB.out.ref).mono ?_
        rintro e v7 ⟨vo2, m2, f2, rfl, hO2, hC2, hb⟩
        replace hO1 := own_kept hO1 hb
        have hB := (both_next C HB.out hb).below
        clear hb HB
        obtain ⟨rfl, hff⟩ := rising_same hC1.2.1 hC2.2.1 (fun x => (hC1.2.2 x).trans (hC2.2.2 x).symm)
        have hml := hC1.1
        have HF1 := Hid.mk hff
        have HO1 := Hid.mk hO1
        have HO2 := Hid.mk hO2
        obtain ⟨p1, cp1, rfl, -⟩ := own_view hO1
        obtain ⟨p2, cp2, rfl, -⟩ := own_view hO2
        clear hff hO1 hO2 hC1 hC2
        go_wp2_with fail
        generalize gk = g0 at *
        generalize wr = w9 at *
        go_loopg [14] m1 (fun gm iv v => ∃ q : Nat, Hid (gm + q = m1) ∧ iv = .int .i64 (q : Int) ∧ Below v7.heap.size v7 v)
        case atStart => exact ⟨0, Hid.mk rfl, rfl, Below.refl _ _⟩
        case round =>
          obtain ⟨q, HQ, rfl, hbv⟩ := hrel
          have hq : q ≤ m1 := by have := HQ.out; omega
          by_cases hqm : q < m1
          · obtain ⟨pa, ca, e1, h1⟩ := own_view (own_kept HO1.out hbv)
            cases e1
            obtain ⟨pb, cb, e2, h2⟩ := own_view (own_kept HO2.out hbv)
            cases e2
            obtain ⟨g1, rfl, k1⟩ := h1 q hqm
            obtain ⟨g2, rfl, k2⟩ := h2 q hqm
            rw [← HF1.out q hqm] at k2
            clear h1 h2
            generalize f1 q = y at *
            go_wp2_with fail
            go_quiet (fail)
            go_wp2_with fail
            go_roundg (m1 - (q + 1))
            case rel => exact ⟨q + 1, Hid.mk (by omega), by go_num, below_drewN hbv _⟩
            case measure => have := HQ.out; omega
          · go_wp2_with fail
            go_ret
            exact ⟨rfl, hB.trans (hbv.mono hB.size)⟩
end Go.Proofs.Ytjnknhgjlllhjaa
/-
  Own text. pick of the laws of replay; the numbers of ReplayOnce.
-/
namespace Go.Proofs.Ytjnknhgjlllhjaa
open Go.RowKit Go.Proofs
set_option maxRecDepth 100000
def I64 (x : Int) : Prop := -9223372036854775808 ≤ x ∧ x < 9223372036854775808
def pickF (c n : Int) : Int := (if c < 0 then -(c + 1) else c).tmod n
theorem pickF_range {c n : Int} (hn : 1 ≤ n) : 0 ≤ pickF c n ∧ pickF c n < n := by
  have h : 0 ≤ (if c < 0 then -(c + 1) else c) := by split <;> omega
  unfold pickF
  exact ⟨Int.tmod_nonneg n h, Int.tmod_lt_of_pos _ (by omega)⟩
set_option maxHeartbeats 1000000 in
theorem pick_run (c n : Int) (w : World) (hc : I64 c) (hn : 1 ≤ n ∧ n < 1000000) : Calls Try.prog 27 #[.int .i64 c, .int .i64 n] w fun e w' => e = .returned (.int .i64 (pickF c n)) ∧ w' = w := by
  unfold I64 at hc
  unfold pickF
  have hn0 : ¬ n = 0 := by omega
  by_cases h : c < 0
  · rw [if_pos h]
    go_enter Try.func27, Try.ntmps27
    go_wp2
    go_ret
    exact ⟨by rw [Int.neg_tmod]; rfl, rfl⟩
  · rw [if_neg h]
    go_enter Try.func27, Try.ntmps27
    go_wp2
    go_ret
    exact ⟨by rw [Int.tmod_eq_emod_of_nonneg (by omega)]; rfl, rfl⟩
/-- Counters in blocks of n: each block has its own numbers, none twice. -/
def Blocks (base : Int) (n L : Nat) (l : Nat → Int) : Prop := (∀ i, i < L → base + (i / n * n : Nat) ≤ l i ∧ l i < base + (i / n * n : Nat) + n ∧ l i < base + L) ∧ ∀ i j, i < j → j < L → l i ≠ l j
theorem blocks_start (base : Int) {n : Nat} (hn : 0 < n) (L : Nat) : Blocks base n L (fun i => base + (i : Int)) := by
  refine ⟨fun i hi => ?_, fun i j h1 h2 => by simp; omega⟩
  have h1 : i / n * n ≤ i := Nat.div_mul_le_self i n
  have h2 : i < i / n * n + n := by
    have := Nat.lt_div_mul_add hn (a := i)
    omega
  show base + ((i / n * n : Nat) : Int) ≤ base + (i : Int) ∧ base + (i : Int) < base + ((i / n * n : Nat) : Int) + (n : Int) ∧ base + (i : Int) < base + (L : Int)
  omega
theorem blocks_swap {base : Int} {n L : Nat} {l : Nat → Int} (h : Blocks base n L l) {i t : Nat} (hi : i < L) (ht : t < L) (hb : t / n = i / n) : Blocks base n L (upd (upd l i (l t)) t (l i)) := by
  have e : ∀ j, upd (upd l i (l t)) t (l i) j = l (if j = t then i else if j = i then t else j) := fun j => by
    unfold upd
    split
    · rfl
    · split <;> rfl
  have hin : ∀ j, j < L → (if j = t then i else if j = i then t else j) < L := fun j hj => by split; exact hi; split; exact ht; exact hj
  have hbl : ∀ j, (if j = t then i else if j = i then t else j) / n = j / n := fun j => by
    split
    · rename_i h1; rw [h1, hb]
    · split
      · rename_i h1; rw [h1, hb]
      · rfl
  refine ⟨fun j hj => ?_, fun j k hjk hk => ?_⟩
  · have := h.1 _ (hin j hj)
    rw [e, ← hbl j]
    exact this
  · rw [e, e]
    have h1 := hin j (by omega)
    have h2 := hin k hk
    have hne : (if j = t then i else if j = i then t else j) ≠ (if k = t then i else if k = i then t else k) := by
      split <;> split <;> (try split) <;> (try split) <;> omega
    rcases Nat.lt_or_gt_of_ne hne with h3 | h3
    · exact h.2 _ _ h3 h2
    · exact fun h4 => h.2 _ _ h3 h1 h4.symm
/-- What comes in such an order is fresh each time. -/
theorem blocks_fresh {base : Int} {n L : Nat} {l : Nat → Int} (h : Blocks base n L l) {i : Nat} (hi : i < L) (hL : base + L ≤ L64) (s : Nat → Int) (hs : ∀ j, j < i → s j = l j) : freshD L64 n i s (l i) = true := by
  have hl := h.1 i hi
  refine fresh_iff.2 ⟨by omega, fun j hj => ?_, fun j hj => ?_⟩
  · rw [hs j hj]; exact h.2 j i hj hi
  · rw [hs j hj]
    have h1 := h.1 j (by omega)
    have h2 : j / n * n ≤ i / n * n := Nat.mul_le_mul_right n (Nat.div_le_div_right (by omega))
    omega
/-- What came is not fresh. -/
theorem came_stale {last sz c : Int} {n i : Nat} {s : Nat → Int} (hi : i < n) (h : s i = c) : freshD last sz n s c = false := by
  cases e : freshD last sz n s c
  · rfl
  · exact absurd h ((fresh_iff.1 e).2.1 i hi)
end Go.Proofs.Ytjnknhgjlllhjaa
/-
  Own text. ReplayOnce, from what windows do.
-/
namespace Go.Proofs.Ytjnknhgjlllhjaa
open Go.RowKit Go.Proofs
set_option maxRecDepth 100000
/-- A slice of numbers as an argument. -/
def IntsAt (w : World) (k : IntKind) (v : Value) (n : Nat) (f : Nat → Int) : Prop := ∃ a c, v = .slice a n c ∧ ∀ j, j < n → ∃ p, a = some p ∧ w.cell? (p.add j) = some (.int k (f j)) ∧ p.block < w.heap.size
theorem own_set {w : World} {B g cp n : Nat} {e : TypeId} {k : IntKind} {s : Nat → Int} (h : w.ownsRow B e 1 (.slice (some ⟨g, 0, none⟩) n cp) n (nums k n s)) {i : Nat} (hi : i < n) (x : Int) : (w.setCell ⟨g, i, none⟩ (.int k x)).ownsRow B e 1 (.slice (some ⟨g, 0, none⟩) n cp) n (nums k n (upd s i x)) := by
  refine ⟨by rw [nums_len]; omega, ?_⟩
  rcases h.2 with ⟨e0, _⟩ | ⟨g', cap, cur, e0, hb, hg, hc, hm, hs, ht⟩
  · cases e0
  · injection e0 with e1 _ e3
    injection e1 with e1
    injection e1 with e1
    subst e1
    subst e3
    have h2 := heap_setCell_same w g i _ _ (.int k x) hg
    refine .inr ⟨g, cp, cur.setIfInBounds i (.int k x), rfl, hb, h2, hc, hm, by simpa using hs, ?_⟩
    apply List.ext_getElem?
    intro j
    rw [Nat.mul_one, List.getElem?_take, Array.toList_setIfInBounds]
    by_cases hj : j < n
    · rw [if_pos hj, nums_at k n _ hj]
      have h1 := nums_at k n s hj
      rw [← ht, Nat.mul_one, List.getElem?_take, if_pos hj] at h1
      unfold upd
      by_cases hji : j = i
      · subst hji
        rw [if_pos rfl, List.getElem?_set_self (by simp; omega)]
      · rw [if_neg hji, List.getElem?_set_ne (by omega)]
        exact h1
    · rw [if_neg hj, eq_comm]
      apply List.getElem?_eq_none
      rw [nums_len]; omega
theorem own_cell {w : World} {B g cp n : Nat} {e : TypeId} {k : IntKind} {s : Nat → Int} (h : w.ownsRow B e 1 (.slice (some ⟨g, 0, none⟩) n cp) n (nums k n s)) {i : Nat} (hi : i < n) : w.cell? ⟨g, i, none⟩ = some (.int k (s i)) := by
  obtain ⟨_, _, e0, _, _, hR⟩ := own_row h (by omega)
  cases e0
  exact hR.cell i hi
theorem once_nums {base : Int} {n L : Nat} {l s : Nat → Int} (h : Blocks base n L l) {q : Nat} (hq : q ≤ L) (hb : 0 ≤ base) (hL : base + L ≤ L64) (hs : ∀ j, j < q → s j = l j) : Nums L64 q s := by
  refine ⟨fun i hi => ?_, fun i j hij hj => ?_⟩
  · rw [hs i hi]
    have := h.1 i (by omega)
    omega
  · rw [hs i (by omega), hs j hj]
    exact h.2 i j hij (by omega)
theorem wrap_block (i N : Nat) (hi : i < 1000000) : wrap64 (wrap64 ((i : Int) / (N : Int)) * (N : Int)) = ((i / N * N : Nat) : Int) := by
  have h1 : i / N ≤ i := Nat.div_le_self i N
  have h2 : i / N * N ≤ i := Nat.div_mul_le_self i N
  have e1 : (i : Int) / (N : Int) = ((i / N : Nat) : Int) := by simp
  have s : ∀ n : Nat, n < 1000000 → wrap64 (n : Int) = n := fun n hn => by unfold wrap64; omega
  rw [e1, s _ (by omega), ← Int.natCast_mul, s _ (by omega)]
set_option maxHeartbeats 8000000 in
theorem once_walk {Win : World → Nat → Int → Nat → (Nat → Int) → (Nat → Prop) → Prop} (C : Code64 Win) (x base : Int) (sv : Value) (ns : Nat) (sw : Nat → Int) (w : World) (hI : IntsAt w .i64 sv ns sw) (hx : I64 x) (hb : U64 base) (hsw : ∀ i, i < ns → I64 (sw i)) (hns : ns < 9223372036854775808) :
    Calls Try.prog 5 #[.int .i64 x, .int .u64 base, sv] w fun e w' => e = .returned (.bool true) ∧ Below w.heap.size w w' := by
  obtain ⟨pa, pc, rfl, hp⟩ := hI
  have HP := Hid.mk hp
  have HSW := Hid.mk hsw
  clear hp hsw
  go_enter Try.func5, Try.ntmps5
  go_wp2_with fail
  refine (awake8_run C _).mono ?_
  rintro e v0 ⟨rfl, hB⟩
  go_wp2_with fail
  refine (pick_run x 60 _ hx (by decide)).mono ?_
  rintro e v1 ⟨rfl, rfl⟩
  have hq := pickF_range (c := x) (n := 60) (by decide)
  generalize pickF x 60 = q at *
  obtain ⟨k, rfl⟩ := Int.eq_ofNat_of_zero_le hq.1
  go_wp2_with fail
  rw [show (2 : Int) + (k : Int) = ((2 + k : Nat) : Int) by omega]
  have hN : 2 ≤ 2 + k ∧ 2 + k < 62 := by omega
  generalize 2 + k = N at *
  refine (C.new N _).mono ?_
  rintro e v2 ⟨bw, S, rfl, hw, hS, hb2⟩
  rw [show clampF (N : Int) = N by unfold clampF; rw [if_neg (by omega), if_neg (by omega)]] at hw
  replace hS : ∀ k, S k → w.heap.size ≤ k := fun k hk => Nat.le_trans hB.size (hS k hk)
  replace hB := hB.trans (hb2.mono hB.size)
  clear hb2 hq
  unfold U64 at hb
  by_cases hbb : 1000000000000 < base
  · go_wp2_with fail
    go_ret
    exact ⟨rfl, hB⟩
  · go_wp2_with fail
    have HWI := Hid.mk hw
    have HSI := Hid.mk hS
    have HBI := Hid.mk hB
    clear hw hS hB
    go_loopg [10, 11] (min ns 200) (fun gm vo iv v => ∃ j : Nat, Hid (gm + j = min ns 200) ∧ iv = .int .i64 (j : Int) ∧ v.ownsRow v2.heap.size 26 1 vo j (nums .u64 j (fun i => base + (i : Int))) ∧ Below v2.heap.size v2 v)
    case atStart => exact ⟨0, Hid.mk (by omega), rfl, World.ownsRow_nil v2 _ _ _, Below.refl _ _⟩
    case round =>
      obtain ⟨j, HK, rfl, hO, hb2⟩ := hrel
      have hj : j ≤ min ns 200 := by have := HK.out; omega
      by_cases hlt : j < min ns 200
      · have hj1 : j < ns := by omega
        have hj2 : j < 200 := by omega
        have ha := (Below.refl wr.heap.size wr).alloc (Nat.le_refl _) (.cells #[.int .u64 (base + (j : Int))] 26)
        replace hO := own_kept hO ha
        have hz := hb2.size
        go_wp2_with (at_builtin; refine ap_own rfl _ _ 29 26 .u64 8 Try.underlying29 infoU64 (by decide) (by rfl) (n := j) (m := 1) (by rfl) hO (by rfl) (r := fun _ => base + (j : Int)) (fun q hq => by obtain rfl : q = 0 := (by omega); exact cell_of_row _ _ 0 _ _ _ (heap_alloc_new wr _)) (by omega) (by simp; omega) ?_; intro l2 v3 h3 hb3; refine Hid.out ?_)
        rw [nums_congr (cat_one j (fun i => base + (i : Int)))] at h3
        have hb4 := (hb2.trans (ha.mono hz)).trans hb3
        clear hO ha hb3
        refine Hid.mk ?_
        go_wp2_with fail
        go_roundg (min ns 200 - (j + 1))
        case rel => exact ⟨j + 1, Hid.mk (by omega), by go_num, h3, hb4⟩
        case measure => have := HK.out; omega
      · have hjL : j = min ns 200 := by omega
        by_cases hj1 : j < ns
        · have hj2 : ¬ j < 200 := by omega
          have hjn : j ≤ ns := by omega
          have hj200 : j ≤ 200 := by omega
          clear hjL hlt hj
          go_wp2_with fail
          simp only [show decide ((1000000000000 : Int) < base) = false from decide_eq_false (by omega)]
          try simp only [show decide ((j : Int) < 200) = false from decide_eq_false (by omega)]
          have HO0 := Hid.mk hO
          obtain ⟨p, cp, rfl, -⟩ := own_view hO
          clear hO
          generalize gk = g0 at *
          generalize wr = w3 at *
          go_loopg [12] j (fun gm iv v => ∃ (i : Nat) (l : Nat → Int), Hid (gm + i = j) ∧ iv = .int .i64 (i : Int) ∧ Hid (v.ownsRow v2.heap.size 26 1 (.slice p j cp) j (nums .u64 j l)) ∧ Hid (Blocks base N j l) ∧ Below v2.heap.size v2 v)
          case atStart => exact ⟨0, _, Hid.mk rfl, rfl, HO0, Hid.mk (blocks_start base (by omega) j), hb2⟩
          case round =>
            clear HO0 hb2
            obtain ⟨i, l, HK2, rfl, HO, HBl, hb2⟩ := hrel
            have hi : i ≤ j := by have := HK2.out; omega
            by_cases hij : i < j
            · obtain ⟨ps, rfl, k1, k3⟩ := HP.out i (by omega)
              have hbk := (HBI.out.trans (hb2.mono HBI.out.size)).block ps.block k3
              replace k1 := cell_kept hbk k1
              have hsi := HSW.out i (by omega)
              generalize sw i = y at *
              obtain ⟨p', cp', e, hpv⟩ := own_view HO.out
              cases e
              obtain ⟨g, rfl, ki⟩ := hpv i hij
              have hdm : i / N * N ≤ i := Nat.div_mul_le_self i N
              have hdI : ((i : Int) / (N : Int)) * (N : Int) = ((i / N * N : Nat) : Int) := by simp
              have hdv : i / N ≤ i := Nat.div_le_self i N
              have hN0 : ¬ (N : Int) = 0 := by omega
              go_wp2_with fail
              rw [wrap_block i N (by omega)]
              refine (pick_run y N _ hsi (by omega)).mono ?_
              rintro e v4 ⟨rfl, rfl⟩
              have ht := pickF_range (c := y) (n := N) (by omega)
              generalize pickF y N = t at *
              obtain ⟨t, rfl⟩ := Int.eq_ofNat_of_zero_le ht.1
              have hbl : (i / N * N + t) / N = i / N := by
                rw [Nat.add_comm, Nat.add_mul_div_right _ _ (by omega), Nat.div_eq_of_lt (by omega), Nat.zero_add]
              clear hdI hdv
              generalize i / N * N = fr at *
              by_cases hto : fr + t < j
              · obtain ⟨g', e1, kt⟩ := hpv (fr + t) hto
                cases e1
                obtain ⟨_, _, e0, hgB, _, hR⟩ := own_row HO.out (by omega)
                cases e0
                have HB2 := Hid.mk (blocks_swap HBl.out hij hto hbl)
                have HO2 := Hid.mk (own_set (own_set HO.out hij (l (fr + t))) hto (l i))
                have fi := hR.free i hij
                have kt2 := (hR.set i (l (fr + t))).cell (fr + t) hto
                have ft2 := (hR.set i (l (fr + t))).free (fr + t) hto
                have hb5 : Below v2.heap.size v2 ((v4.setCell ⟨g, i, none⟩ (.int .u64 (l (fr + t)))).setCell ⟨g, fr + t, none⟩ (.int .u64 (l i))) := below_T (below_T hb2 (touch_only only_set) (fun k hk => by subst hk; exact hgB) hb2.size) (touch_only only_set) (fun k hk => by subst hk; exact hgB) (by rw [only_set.size]; exact hb2.size)
                clear HO HBl hR hpv hb2
                generalize upd (upd l i (l (fr + t))) (fr + t) (l i) = l9 at *
                generalize upd l i (l (fr + t)) (fr + t) = z at *
                generalize l (fr + t) = a2 at *
                generalize l i = a1 at *
                go_wp2_with fail
                generalize (v4.setCell ⟨g, i, none⟩ (.int .u64 a2)).setCell ⟨g, fr + t, none⟩ (.int .u64 a1) = v5 at *
                go_roundg (j - (i + 1))
                case rel => exact ⟨i + 1, l9, Hid.mk (by omega), by go_num, HO2, HB2, hb5⟩
                case measure => have := HK2.out; omega
              · go_wp2_with fail
                go_roundg (j - (i + 1))
                case rel => exact ⟨i + 1, l, Hid.mk (by omega), by go_num, HO, HBl, hb2⟩
                case measure => have := HK2.out; omega
            · obtain rfl : i = j := by omega
              go_wp2_with fail
              obtain ⟨p', cp', e, -⟩ := own_view HO.out
              cases e
              have hol := own_lt HO.out
              have HW1 := Hid.mk (C.below HWI.out hb2)
              have HS1 : Hid ((∀ k, (Value.slice p i cp).ownBlock = some k → ¬ S k) ∧ ∀ k, S k → w.heap.size ≤ k) := Hid.mk ⟨fun k hk h => by have h1 := C.lt HWI.out k h; have h2 := (hol k hk).1; omega, HSI.out⟩
              have hB := HBI.out.trans (hb2.mono HBI.out.size)
              have HO1 := HO
              clear hol HWI HSI HBI HO hb2
              generalize gk = g1 at *
              generalize wr = w4 at *
              go_loopg [16] i (fun gm iv v => ∃ (q : Nat) (s : Nat → Int) (S : Nat → Prop), Hid (gm + q = i) ∧ iv = .int .i64 (q : Int) ∧ Hid (Win v bw N q s S) ∧ Hid (∀ j, j < q → s j = l j) ∧ Hid (v.ownsRow v2.heap.size 26 1 (.slice p i cp) i (nums .u64 i l)) ∧ Hid ((∀ k, (Value.slice p i cp).ownBlock = some k → ¬ S k) ∧ ∀ k, S k → w.heap.size ≤ k) ∧ Below w.heap.size w v)
              case atStart => exact ⟨0, _, S, Hid.mk rfl, rfl, HW1, Hid.mk (fun j h => by omega), HO1, HS1, hB⟩
              case round =>
                clear HW1 HS1 HO1 hB
                obtain ⟨q, s, S1, HK3, rfl, HW, HE, HO, HS, hB⟩ := hrel
                have hqi : q ≤ i := by have := HK3.out; omega
                by_cases hq : q < i
                · have hbq := HBl.out.1 q hq
                  have hU : U64 (l q) := by unfold U64; have := hbq.1; have := hbq.2.2; omega
                  have hNq : Nums L64 q s := once_nums HBl.out (by omega) hb.1 (by unfold L64; omega) HE.out
                  have F1 := blocks_fresh HBl.out hq (by unfold L64; omega) s HE.out
                  have F2 : freshD L64 N (q + 1) (cat q s (fun _ => l q)) (l q) = false := came_stale (i := q) (by omega) (by simp [cat])
                  have hN1 := hNq.take (by unfold U64 at hU; exact hU.1) (by unfold U64 at hU; unfold L64; omega) F1
                  have HE2 : Hid (∀ j, j < q + 1 → cat q s (fun _ => l q) j = l j) := Hid.mk (fun j hj => by
                    unfold cat
                    by_cases e : j < q
                    · rw [if_pos e]; exact HE.out j e
                    · rw [if_neg e, show j = q by omega])
                  have hz : (1 : Int) ≤ (N : Int) ∧ (N : Int) ≤ 8192 := by omega
                  obtain ⟨p', cp', e, hpv⟩ := own_view HO.out
                  cases e
                  obtain ⟨g, rfl, kq⟩ := hpv q hq
                  clear hpv hbq
                  go_wp2_with fail
                  refine (C.fresh _ HW.out hNq (by omega) hU hz).mono ?_
                  rintro e v5 ⟨rfl, hb5⟩
                  rw [F1]
                  replace HW := Hid.mk (C.below HW.out hb5)
                  replace HO := Hid.mk (own_kept HO.out hb5)
                  replace hB := hB.trans (hb5.mono hB.size)
                  replace kq := own_cell HO.out hq
                  clear hb5
                  go_wp2_with fail
                  refine (C.takeYes _ HW.out hNq (by omega) hU hz F1).mono ?_
                  rintro e v6 ⟨rfl, S2, h2, hT, hS2⟩
                  have hol := own_lt HO.out
                  have hs5 := hB.size
                  have HS2 : Hid ((∀ k, (Value.slice (some ⟨g, 0, none⟩) i cp).ownBlock = some k → ¬ S2 k) ∧ ∀ k, S2 k → w.heap.size ≤ k) := Hid.mk ⟨fun k hk h => by
                    have h1 := (hol k hk).2
                    rcases hS2 k h with h3 | h3
                    · exact HS.out.1 k hk h3
                    · omega, fun k h => by
                    rcases hS2 k h with h3 | h3
                    · exact HS.out.2 k h3
                    · omega⟩
                  replace HO := Hid.mk (own_block HO.out (fun k hk => hT.block k (hol k hk).2 (HS.out.1 k hk)))
                  replace hB := below_T hB hT HS.out.2 hB.size
                  replace kq := own_cell HO.out hq
                  replace HW := Hid.mk h2
                  clear hT hS2 h2 hol hs5 HS
                  go_wp2_with fail
                  refine (C.takeNo _ HW.out hN1 (by omega) hU hz F2).mono ?_
                  rintro e v7 ⟨rfl, hb5⟩
                  replace HW := Hid.mk (C.below HW.out hb5)
                  replace HO := Hid.mk (own_kept HO.out hb5)
                  replace hB := hB.trans (hb5.mono hB.size)
                  replace kq := own_cell HO.out hq
                  clear hb5
                  go_wp2_with fail
                  refine (C.fresh _ HW.out hN1 (by omega) hU hz).mono ?_
                  rintro e v8 ⟨rfl, hb5⟩
                  rw [F2]
                  replace HW := Hid.mk (C.below HW.out hb5)
                  replace HO := Hid.mk (own_kept HO.out hb5)
                  replace hB := hB.trans (hb5.mono hB.size)
                  clear hb5 kq F1 F2 hN1 hNq hU
                  go_wp2_with fail
                  go_roundg (i - (q + 1))
                  case rel => exact ⟨q + 1, _, S2, Hid.mk (by omega), by go_num, HW, HE2, HO, HS2, hB⟩
                  case measure => have := HK3.out; omega
                · go_wp2_with fail
                  go_ret
                  exact ⟨rfl, hB⟩
        · have hjn : j ≤ ns := by omega
          have hj200 : j ≤ 200 := by omega
          clear hjL hlt hj
          go_wp2_with fail
          simp only [show decide ((1000000000000 : Int) < base) = false from decide_eq_false (by omega)]
          try simp only [show decide ((j : Int) < 200) = false from decide_eq_false (by omega)]
          have HO0 := Hid.mk hO
          obtain ⟨p, cp, rfl, -⟩ := own_view hO
          clear hO
          generalize gk = g0 at *
          generalize wr = w3 at *
          go_loopg [12] j (fun gm iv v => ∃ (i : Nat) (l : Nat → Int), Hid (gm + i = j) ∧ iv = .int .i64 (i : Int) ∧ Hid (v.ownsRow v2.heap.size 26 1 (.slice p j cp) j (nums .u64 j l)) ∧ Hid (Blocks base N j l) ∧ Below v2.heap.size v2 v)
          case atStart => exact ⟨0, _, Hid.mk rfl, rfl, HO0, Hid.mk (blocks_start base (by omega) j), hb2⟩
          case round =>
            clear HO0 hb2
            obtain ⟨i, l, HK2, rfl, HO, HBl, hb2⟩ := hrel
            have hi : i ≤ j := by have := HK2.out; omega
            by_cases hij : i < j
            · obtain ⟨ps, rfl, k1, k3⟩ := HP.out i (by omega)
              have hbk := (HBI.out.trans (hb2.mono HBI.out.size)).block ps.block k3
              replace k1 := cell_kept hbk k1
              have hsi := HSW.out i (by omega)
              generalize sw i = y at *
              obtain ⟨p', cp', e, hpv⟩ := own_view HO.out
              cases e
              obtain ⟨g, rfl, ki⟩ := hpv i hij
              have hdm : i / N * N ≤ i := Nat.div_mul_le_self i N
              have hdI : ((i : Int) / (N : Int)) * (N : Int) = ((i / N * N : Nat) : Int) := by simp
              have hdv : i / N ≤ i := Nat.div_le_self i N
              have hN0 : ¬ (N : Int) = 0 := by omega
              go_wp2_with fail
              rw [wrap_block i N (by omega)]
              refine (pick_run y N _ hsi (by omega)).mono ?_
              rintro e v4 ⟨rfl, rfl⟩
              have ht := pickF_range (c := y) (n := N) (by omega)
              generalize pickF y N = t at *
              obtain ⟨t, rfl⟩ := Int.eq_ofNat_of_zero_le ht.1
              have hbl : (i / N * N + t) / N = i / N := by
                rw [Nat.add_comm, Nat.add_mul_div_right _ _ (by omega), Nat.div_eq_of_lt (by omega), Nat.zero_add]
              clear hdI hdv
              generalize i / N * N = fr at *
              by_cases hto : fr + t < j
              · obtain ⟨g', e1, kt⟩ := hpv (fr + t) hto
                cases e1
                obtain ⟨_, _, e0, hgB, _, hR⟩ := own_row HO.out (by omega)
                cases e0
                have HB2 := Hid.mk (blocks_swap HBl.out hij hto hbl)
                have HO2 := Hid.mk (own_set (own_set HO.out hij (l (fr + t))) hto (l i))
                have fi := hR.free i hij
                have kt2 := (hR.set i (l (fr + t))).cell (fr + t) hto
                have ft2 := (hR.set i (l (fr + t))).free (fr + t) hto
                have hb5 : Below v2.heap.size v2 ((v4.setCell ⟨g, i, none⟩ (.int .u64 (l (fr + t)))).setCell ⟨g, fr + t, none⟩ (.int .u64 (l i))) := below_T (below_T hb2 (touch_only only_set) (fun k hk => by subst hk; exact hgB) hb2.size) (touch_only only_set) (fun k hk => by subst hk; exact hgB) (by rw [only_set.size]; exact hb2.size)
                clear HO HBl hR hpv hb2
                generalize upd (upd l i (l (fr + t))) (fr + t) (l i) = l9 at *
                generalize upd l i (l (fr + t)) (fr + t) = z at *
                generalize l (fr + t) = a2 at *
                generalize l i = a1 at *
                go_wp2_with fail
                generalize (v4.setCell ⟨g, i, none⟩ (.int .u64 a2)).setCell ⟨g, fr + t, none⟩ (.int .u64 a1) = v5 at *
                go_roundg (j - (i + 1))
                case rel => exact ⟨i + 1, l9, Hid.mk (by omega), by go_num, HO2, HB2, hb5⟩
                case measure => have := HK2.out; omega
              · go_wp2_with fail
                go_roundg (j - (i + 1))
                case rel => exact ⟨i + 1, l, Hid.mk (by omega), by go_num, HO, HBl, hb2⟩
                case measure => have := HK2.out; omega
            · obtain rfl : i = j := by omega
              go_wp2_with fail
              obtain ⟨p', cp', e, -⟩ := own_view HO.out
              cases e
              have hol := own_lt HO.out
              have HW1 := Hid.mk (C.below HWI.out hb2)
              have HS1 : Hid ((∀ k, (Value.slice p i cp).ownBlock = some k → ¬ S k) ∧ ∀ k, S k → w.heap.size ≤ k) := Hid.mk ⟨fun k hk h => by have h1 := C.lt HWI.out k h; have h2 := (hol k hk).1; omega, HSI.out⟩
              have hB := HBI.out.trans (hb2.mono HBI.out.size)
              have HO1 := HO
              clear hol HWI HSI HBI HO hb2
              generalize gk = g1 at *
              generalize wr = w4 at *
              go_loopg [16] i (fun gm iv v => ∃ (q : Nat) (s : Nat → Int) (S : Nat → Prop), Hid (gm + q = i) ∧ iv = .int .i64 (q : Int) ∧ Hid (Win v bw N q s S) ∧ Hid (∀ j, j < q → s j = l j) ∧ Hid (v.ownsRow v2.heap.size 26 1 (.slice p i cp) i (nums .u64 i l)) ∧ Hid ((∀ k, (Value.slice p i cp).ownBlock = some k → ¬ S k) ∧ ∀ k, S k → w.heap.size ≤ k) ∧ Below w.heap.size w v)
              case atStart => exact ⟨0, _, S, Hid.mk rfl, rfl, HW1, Hid.mk (fun j h => by omega), HO1, HS1, hB⟩
              case round =>
                clear HW1 HS1 HO1 hB
                obtain ⟨q, s, S1, HK3, rfl, HW, HE, HO, HS, hB⟩ := hrel
                have hqi : q ≤ i := by have := HK3.out; omega
                by_cases hq : q < i
                · have hbq := HBl.out.1 q hq
                  have hU : U64 (l q) := by unfold U64; have := hbq.1; have := hbq.2.2; omega
                  have hNq : Nums L64 q s := once_nums HBl.out (by omega) hb.1 (by unfold L64; omega) HE.out
                  have F1 := blocks_fresh HBl.out hq (by unfold L64; omega) s HE.out
                  have F2 : freshD L64 N (q + 1) (cat q s (fun _ => l q)) (l q) = false := came_stale (i := q) (by omega) (by simp [cat])
                  have hN1 := hNq.take (by unfold U64 at hU; exact hU.1) (by unfold U64 at hU; unfold L64; omega) F1
                  have HE2 : Hid (∀ j, j < q + 1 → cat q s (fun _ => l q) j = l j) := Hid.mk (fun j hj => by
                    unfold cat
                    by_cases e : j < q
                    · rw [if_pos e]; exact HE.out j e
                    · rw [if_neg e, show j = q by omega])
                  have hz : (1 : Int) ≤ (N : Int) ∧ (N : Int) ≤ 8192 := by omega
                  obtain ⟨p', cp', e, hpv⟩ := own_view HO.out
                  cases e
                  obtain ⟨g, rfl, kq⟩ := hpv q hq
                  clear hpv hbq
                  go_wp2_with fail
                  refine (C.fresh _ HW.out hNq (by omega) hU hz).mono ?_
                  rintro e v5 ⟨rfl, hb5⟩
                  rw [F1]
                  replace HW := Hid.mk (C.below HW.out hb5)
                  replace HO := Hid.mk (own_kept HO.out hb5)
                  replace hB := hB.trans (hb5.mono hB.size)
                  replace kq := own_cell HO.out hq
                  clear hb5
                  go_wp2_with fail
                  refine (C.takeYes _ HW.out hNq (by omega) hU hz F1).mono ?_
                  rintro e v6 ⟨rfl, S2, h2, hT, hS2⟩
                  have hol := own_lt HO.out
                  have hs5 := hB.size
                  have HS2 : Hid ((∀ k, (Value.slice (some ⟨g, 0, none⟩) i cp).ownBlock = some k → ¬ S2 k) ∧ ∀ k, S2 k → w.heap.size ≤ k) := Hid.mk ⟨fun k hk h => by
                    have h1 := (hol k hk).2
                    rcases hS2 k h with h3 | h3
                    · exact HS.out.1 k hk h3
                    · omega, fun k h => by
                    rcases hS2 k h with h3 | h3
                    · exact HS.out.2 k h3
                    · omega⟩
                  replace HO := Hid.mk (own_block HO.out (fun k hk => hT.block k (hol k hk).2 (HS.out.1 k hk)))
                  replace hB := below_T hB hT HS.out.2 hB.size
                  replace kq := own_cell HO.out hq
                  replace HW := Hid.mk h2
                  clear hT hS2 h2 hol hs5 HS
                  go_wp2_with fail
                  refine (C.takeNo _ HW.out hN1 (by omega) hU hz F2).mono ?_
                  rintro e v7 ⟨rfl, hb5⟩
                  replace HW := Hid.mk (C.below HW.out hb5)
                  replace HO := Hid.mk (own_kept HO.out hb5)
                  replace hB := hB.trans (hb5.mono hB.size)
                  replace kq := own_cell HO.out hq
                  clear hb5
                  go_wp2_with fail
                  refine (C.fresh _ HW.out hN1 (by omega) hU hz).mono ?_
                  rintro e v8 ⟨rfl, hb5⟩
                  rw [F2]
                  replace HW := Hid.mk (C.below HW.out hb5)
                  replace HO := Hid.mk (own_kept HO.out hb5)
                  replace hB := hB.trans (hb5.mono hB.size)
                  clear hb5 kq F1 F2 hN1 hNq hU
                  go_wp2_with fail
                  go_roundg (i - (q + 1))
                  case rel => exact ⟨q + 1, _, S2, Hid.mk (by omega), by go_num, HW, HE2, HO, HS2, hB⟩
                  case measure => have := HK3.out; omega
                · go_wp2_with fail
                  go_ret
                  exact ⟨rfl, hB⟩
end Go.Proofs.Ytjnknhgjlllhjaa
/-
  Own text. The numbers of ReplayLate; a window apart from a row.
-/
namespace Go.Proofs.Ytjnknhgjlllhjaa
open Go.RowKit Go.Proofs
set_option maxRecDepth 100000
theorem late_top {n : Nat} {s : Nat → Int} {sz x : Int} (hs : ∀ i, i < n → 0 ≤ s i) (hx : 0 ≤ x) (hz : 1 ≤ sz) : late n s sz x = decide (x < topF s n ∧ sz ≤ topF s n - 1 - x) := by
  by_cases h : x < topF s n ∧ sz ≤ topF s n - 1 - x
  · rw [decide_eq_true h]
    have hn : 0 < n := by
      rcases Nat.eq_zero_or_pos n with e | e
      · subst e
        simp only [topF] at h
        omega
      · exact e
    obtain ⟨i, hi, e⟩ := topF_some hn hs
    exact late_yes hi (by omega) (by omega)
  · rw [decide_eq_false h]
    refine late_no (fun i hi h2 => h ?_)
    have := topF_le (s := s) hi
    omega
/-- A window, and a row that lies apart from it. -/
structure RowP (Win : World → Nat → Int → Nat → (Nat → Int) → (Nat → Prop) → Prop) (w0 v : World) (bw : Nat) (sz : Int) (m : Nat) (s : Nat → Int) (S : Nat → Prop) (B : Nat) (vo : Value) (n : Nat) (l : Nat → Int) : Prop where
  win : Win v bw sz m s S
  row : v.ownsRow B 26 1 vo n (nums .u64 n l)
  nvo : ∀ k, vo.ownBlock = some k → ¬ S k
  up : ∀ k, S k → w0.heap.size ≤ k
  b0 : w0.heap.size ≤ B
  bB : B ≤ v.heap.size
  below : Below w0.heap.size w0 v
section
variable {Win : World → Nat → Int → Nat → (Nat → Int) → (Nat → Prop) → Prop} {w0 v v' : World} {bw : Nat} {sz : Int} {m n : Nat} {s l s' : Nat → Int} {S S' : Nat → Prop} {B : Nat} {vo vo' : Value}
theorem RowP.next (C : Code64 Win) (h : RowP Win w0 v bw sz m s S B vo n l) (hb : Below v.heap.size v v') : RowP Win w0 v' bw sz m s S B vo n l :=
  ⟨C.below h.win hb, own_kept h.row hb, h.nvo, h.up, h.b0, Nat.le_trans h.bB hb.size, h.below.trans (hb.mono h.below.size)⟩
theorem RowP.took (h : RowP Win w0 v bw sz m s S B vo n l) {m' : Nat} (hw : Win v' bw sz m' s' S') (hT : Touch S v v') (hS : ∀ k, S' k → S k ∨ v.heap.size ≤ k) : RowP Win w0 v' bw sz m' s' S' B vo n l := by
  have hl := own_lt h.row
  refine ⟨hw, own_block h.row (fun k hk => hT.block k (hl k hk).2 (h.nvo k hk)), fun k hk h2 => ?_, fun k h2 => ?_, h.b0, Nat.le_trans h.bB hT.size, below_T h.below hT h.up h.below.size⟩
  · have := (hl k hk).2
    rcases hS k h2 with h3 | h3
    · exact h.nvo k hk h3
    · omega
  · have := h.below.size
    rcases hS k h2 with h3 | h3
    · exact h.up k h3
    · omega
theorem RowP.grown (C : Code64 Win) (h : RowP Win w0 v bw sz m s S B vo n l) {n' : Nat} {l' : Nat → Int} (hr : v'.ownsRow B 26 1 vo' n' (nums .u64 n' l')) (hg : v.grownBy v' vo.ownBlock) (hq : ∀ q, vo'.ownBlock = some q → vo.ownBlock = some q ∨ v.heap.size ≤ q) : RowP Win w0 v' bw sz m s S B vo' n' l' := by
  have hl := own_lt h.row
  refine ⟨C.kept h.win hg.size (fun k hk => hg.block k (C.lt h.win k hk) (fun e => h.nvo k e.symm hk)), hr, fun k hk h2 => ?_, h.up, h.b0, Nat.le_trans h.bB hg.size, h.below.trans ⟨hg.os, hg.tape, hg.output, hg.size, fun k hk => hg.block k (Nat.lt_of_lt_of_le hk h.below.size) (fun e => ?_)⟩⟩
  · have := C.lt h.win k h2
    rcases hq k hk with h3 | h3
    · exact h.nvo k h3 h2
    · omega
  · have h1 := (hl k e.symm).1
    have h2 := h.b0
    omega
end
end Go.Proofs.Ytjnknhgjlllhjaa
